/-
  A writer and a row beside each other: what a call that puts, and an append to the row, leave of both. Ops that came in, read in a later world.
-/
import Derived.Test.YtnaodcldnjkklaaArgs
import Derived.Deep.QuietTactic
import Derived.BigQuiet
namespace Go.Proofs.Ytnaodcldnjkklaa.Wd
open Go.RowKit

theorem sep_put {wr w1 : World} {p : Nat} {q q1 : Option Nat} {s : Option (List Nat)} {v : Value} {X : List Nat} (hW : Wr wr p q s) (hO : Own wr v X) (hsep : ∀ b, q = some b → v.ownBlock ≠ some b)
    (hk : Keep (fun k => k = p ∨ q = some k) wr w1) (hn : New wr q q1) : Own w1 v X ∧ ∀ b, q1 = some b → v.ownBlock ≠ some b := by
  obtain ⟨cs, hA⟩ := hW.at
  refine ⟨hO.keep hk (fun b hb h => ?_), fun b hb hv => ?_⟩
  · rcases h with h | h
    · exact hO.ne hA (by decide) (h ▸ hb)
    · exact hsep b h hb
  · rcases hn b hb with h | h
    · exact hsep b h hv
    · have := hO.lt b hv
      omega
theorem sep_app {w2 w3 : World} {p : Nat} {q : Option Nat} {s : Option (List Nat)} {v v' : Value} {X : List Nat} (hW : Wr w2 p q s) (hO : Own w2 v X) (hsep : ∀ b, q = some b → v.ownBlock ≠ some b)
    (hk : Keep (fun k => v.ownBlock = some k) w2 w3) (hn : New w2 v.ownBlock v'.ownBlock) : Wr w3 p q s ∧ ∀ b, q = some b → v'.ownBlock ≠ some b := by
  obtain ⟨cs, hA⟩ := hW.at
  refine ⟨hW.keep hk (hO.ne hA (by decide)) hsep, fun b hb hv => ?_⟩
  rcases hn b hv with h | h
  · exact hsep b hb h
  · have := hW.lt b hb
    omega
theorem Ops.at {w wr : World} {a : Option Addr} {ops : List OpR} (h : Ops w a ops) (k : Keep (fun b => w.heap.size ≤ b) w wr) (i : Nat) (hi : i < ops.length) :
    ∃ b off x c o, Hid (ops[i]? = some o) ∧ a = some ⟨b, off, none⟩ ∧ wr.cell? ⟨b, off + i * 3, none⟩ = some (.int .i64 o.kind) ∧ wr.cell? ⟨b, off + i * 3 + 1, none⟩ = some (.int .i64 o.num) ∧
      wr.cell? ⟨b, off + i * 3 + 2, none⟩ = some (.slice x o.txt.length c) ∧ b < w.heap.size ∧ o.txt.length ≤ 9223372036854775807 ∧ Hid (Bytes (fun k => k < w.heap.size) wr x o.txt) := by
  obtain ⟨b, off, x, c, hb, ha, c0, c1, c2, hl, hB⟩ := h i ops[i] (List.getElem?_eq_getElem hi)
  exact ⟨b, off, x, c, ops[i], List.getElem?_eq_getElem hi, ha, k.cell c0 (by simp; omega), k.cell c1 (by simp; omega), k.cell c2 (by simp; omega), hb, hl, hB.keep k (fun b _ h1 h2 => by omega)⟩

/-- The law's two rows beside each other: what the writer has put, and what the law itself has laid. -/
def WInv (w : World) (p k : Nat) (want ok : Value) (wr : World) : Prop :=
  ∃ (s : Option (List Nat)) (q : Option Nat) (X : List Nat) (y : Option Addr) (n cap : Nat), want = .slice y n cap ∧ ok = .bool s.isSome ∧ n = X.length ∧ Wr wr p q s ∧ Own wr (.slice y n cap) X ∧ (∀ bs, s = some bs → X = bs) ∧
    (∀ b, q = some b → (Value.slice y n cap).ownBlock ≠ some b) ∧ (∀ b, q = some b → w.heap.size ≤ b) ∧ (∀ b, (Value.slice y n cap).ownBlock = some b → w.heap.size ≤ b) ∧
    X.length ≤ 508 * k ∧ (s.getD []).length ≤ 508 * k ∧ Keep (fun b => w.heap.size ≤ b) w wr
theorem putNum_some (s : Option (List Nat)) (N : Int) (h : 0 ≤ N ∧ N ≤ 4611686018427387904) : putNum s N = s.map (· ++ num8 N.toNat) := by simp only [putNum, if_pos h]
theorem putNum_none (s : Option (List Nat)) (N : Int) (h : ¬ (0 ≤ N ∧ N ≤ 4611686018427387904)) : putNum s N = none := by simp only [putNum, if_neg h]
theorem WInv.start (w : World) : WInv w w.heap.size 0 (.slice none 0 0) (.bool true) (w.alloc (.cells #[.slice none 0 0, .bool false] 26)) :=
  ⟨some [], none, [], none, 0, 0, rfl, rfl, rfl, Wr.new w, Own.empty _, (fun bs h => by injection h), (fun b h => by cases h), (fun b h => by cases h), (fun b h => by simp [Value.ownBlock] at h), Nat.le_refl _, Nat.le_refl _, (Keep.refl _ w).alloc _⟩
/-- Nothing but the writer has changed. -/
theorem WInv.put {w wr w1 : World} {p k : Nat} {s s1 : Option (List Nat)} {q q1 : Option Nat} {X : List Nat} {y : Option Addr} {n cap : Nat} (hn : n = X.length) (hW : Wr wr p q s) (hO : Own wr (.slice y n cap) X)
    (hsep : ∀ b, q = some b → (Value.slice y n cap).ownBlock ≠ some b) (hqb : ∀ b, q = some b → w.heap.size ≤ b) (hob : ∀ b, (Value.slice y n cap).ownBlock = some b → w.heap.size ≤ b) (hXl : X.length ≤ 508 * k) (hkp : Keep (fun b => w.heap.size ≤ b) w wr)
    (hp : w.heap.size ≤ p) (hW1 : Wr w1 p q1 s1) (hk1 : Keep (fun k => k = p ∨ q = some k) wr w1) (hn1 : New wr q q1) (hs1 : s1 = none) : WInv w p (k + 1) (.slice y n cap) (.bool false) w1 := by
  subst hs1
  obtain ⟨hO1, hsep1⟩ := sep_put hW hO hsep hk1 hn1
  have hsz := hkp.size
  refine ⟨none, q1, X, y, n, cap, rfl, rfl, hn, hW1, hO1, (fun bs h => by cases h), hsep1, (fun b hb => ?_), hob, by omega, by simp, hkp.trans hk1 (fun b _ h => ?_)⟩
  · rcases hn1 b hb with h | h
    · exact hqb b h
    · omega
  · rcases h with h | h
    · omega
    · exact hqb b h
/-- The writer has put, and so has the law. -/
theorem WInv.both {w wr w1 w2 w3 : World} {p k : Nat} {s s1 : Option (List Nat)} {q q1 : Option Nat} {X Z : List Nat} {y y3 : Option Addr} {n cap n3 cap3 : Nat} (hW : Wr wr p q s) (hO : Own wr (.slice y n cap) X)
    (hsep : ∀ b, q = some b → (Value.slice y n cap).ownBlock ≠ some b) (hqb : ∀ b, q = some b → w.heap.size ≤ b) (hob : ∀ b, (Value.slice y n cap).ownBlock = some b → w.heap.size ≤ b) (hXl : X.length ≤ 508 * k) (hsl : (s.getD []).length ≤ 508 * k) (hkp : Keep (fun b => w.heap.size ≤ b) w wr)
    (hX : ∀ bs, s = some bs → X = bs) (hp : w.heap.size ≤ p) (hW1 : Wr w1 p q1 s1) (hk1 : Keep (fun k => k = p ∨ q = some k) wr w1) (hn1 : New wr q q1) (hs1 : s1 = s.map (· ++ Z)) (hZ : Z.length ≤ 508)
    (hk2 : Keep (fun _ => False) w1 w2) (hO3 : Own w3 (.slice y3 n3 cap3) (X ++ Z)) (hn3 : n3 = (X ++ Z).length) (hk3 : Keep (fun k => (Value.slice y n cap).ownBlock = some k) w2 w3) (hnew3 : New w2 (Value.slice y n cap).ownBlock (Value.slice y3 n3 cap3).ownBlock) :
    WInv w p (k + 1) (.slice y3 n3 cap3) (.bool s.isSome) w3 := by
  obtain ⟨hO1, hsep1⟩ := sep_put hW hO hsep hk1 hn1
  obtain ⟨hW3, hsep3⟩ := sep_app (hW1.keep hk2 (fun h => h) (fun _ _ h => h)) (hO1.keep hk2 (fun _ _ h => h)) hsep1 hk3 hnew3
  have hsz := hkp.size
  have hsz1 := hk1.size
  have hsz2 := hk2.size
  have kp1 : Keep (fun b => w.heap.size ≤ b) w w1 := hkp.trans hk1 (fun b _ h => by
    rcases h with h | h
    · omega
    · exact hqb b h)
  refine ⟨s1, q1, X ++ Z, y3, n3, cap3, rfl, by rw [hs1]; simp, hn3, hW3, hO3, (fun bs h => ?_), hsep3, (fun b hb => ?_), (fun b hb => ?_), by rw [List.length_append]; omega, ?_, (kp1.trans hk2 (fun _ _ h => h.elim)).trans hk3 (fun b _ h => hob b h)⟩
  · subst hs1
    rcases s with _ | t
    · cases h
    · rw [hX t rfl]
      simpa using h
  · rcases hn1 b hb with h | h
    · exact hqb b h
    · omega
  · rcases hnew3 b hb with h | h
    · exact hob b h
    · omega
  · subst hs1
    rcases s with _ | t
    · simp
    · simp at hsl ⊢
      omega

/-- The program's reader and the document's, at the same place. -/
def RInv (w : World) (p g q : Nat) (s : Option (List Nat)) (wr : World) : Prop :=
  Rd (fun b => b = g) wr p s ∧ Ey (fun b => b < w.heap.size) wr q s ∧ Keep (fun b => w.heap.size ≤ b) w wr ∧ (s.getD []).length ≤ 2000
theorem Rd.drewN {P : Nat → Prop} {w : World} {p : Nat} {s : Option (List Nat)} (h : Rd P w p s) (n : Nat) : Rd P (w.drewN n) p s := by
  rcases s with _ | bs
  · exact h
  · exact h
theorem Ey.drewN {P : Nat → Prop} {w : World} {p : Nat} {s : Option (List Nat)} (h : Ey P w p s) (n : Nat) : Ey P (w.drewN n) p s := by
  rcases s with _ | bs
  · exact h
  · exact h
theorem RInv.drewN {w : World} {p g q : Nat} {s : Option (List Nat)} {wr : World} (h : RInv w p g q s wr) (n : Nat) : RInv w p g q s (wr.drewN n) :=
  ⟨h.1.drewN n, h.2.1.drewN n, ⟨h.2.2.1.os, h.2.2.1.tape, h.2.2.1.output, h.2.2.1.size, h.2.2.1.block⟩, h.2.2.2⟩
theorem quiet_same {f : FuncId} {args : Array Value} {w : World} {n : Nat} {v : Value} (h : Calls Try.prog f args (w.drewN n) fun e w' => e = .returned v ∧ w.drewN n = w') :
    Calls Try.prog f args (w.drewN n) fun e w'' => e = .returned v ∧ ∃ m, w'' = w.drewN m := h.mono fun _ _ ⟨he, hm⟩ => ⟨he, n, hm.symm⟩
theorem numS_len (s : Option (List Nat)) : ((numS s).getD []).length ≤ (s.getD []).length := by
  cases h : numOk s with
  | false => rw [numS_no h]; simp
  | true => obtain ⟨bs, rfl, _, _, _, e⟩ := numOk_some h; rw [e]; simp
theorem takeS_len (n : Nat) (s : Option (List Nat)) : ((takeS n s).getD []).length ≤ (s.getD []).length := by
  cases h : takeOk n s with
  | false => rw [takeS_no h]; simp
  | true => simp [takeS, h]
theorem done_some {bs : List Nat} (h : bs ≠ []) : doneB (some bs) = false := by simp [doneB, h]
theorem bytS_len (s : Option (List Nat)) : ((bytS s).getD []).length ≤ (s.getD []).length := Nat.le_trans (takeS_len _ _) (numS_len s)

/-! ### Ops that are put and read again -/
def encOp (o : OpR) : List Nat := if o.kind = 1 then num8 o.num.toNat else enc o.txt
def encAll (l : List OpR) : List Nat := l.flatMap encOp
/-- A number that may be, or bytes that are few. -/
def Fit (o : OpR) : Prop := (o.kind = 1 → 0 ≤ o.num ∧ o.num ≤ 4611686018427387904) ∧ o.txt.length ≤ 500
/-- What a writer has put of the first k Ops. -/
def BInv (w : World) (p : Nat) (ops : List OpR) (k : Nat) (s : Option (List Nat)) (q : Option Nat) (wr : World) : Prop :=
  Wr wr p q s ∧ (∀ bs, s = some bs → bs = encAll (ops.take k) ∧ ∀ o ∈ ops.take k, Fit o) ∧ (∀ b, q = some b → w.heap.size ≤ b) ∧ (s.getD []).length ≤ 508 * k ∧ Keep (fun b => w.heap.size ≤ b) w wr
theorem BInv.start (w : World) (ops : List OpR) : BInv w w.heap.size ops 0 (some []) none (w.alloc (.cells #[.slice none 0 0, .bool false] 26)) :=
  ⟨Wr.new w, (fun bs h => ⟨by injection h with h; subst h; rfl, by simp⟩), (fun b h => by cases h), Nat.le_refl _, (Keep.refl _ w).alloc _⟩
theorem BInv.next {w wr w1 : World} {p k : Nat} {ops : List OpR} {s s1 : Option (List Nat)} {q q1 : Option Nat} {o : OpR} (h : BInv w p ops k s q wr) (ho : ops[k]? = some o) (hp : w.heap.size ≤ p)
    (hW1 : Wr w1 p q1 s1) (hk1 : Keep (fun k => k = p ∨ q = some k) wr w1) (hn1 : New wr q q1) (hl : o.txt.length ≤ 500) (hs : s1 = none ∨ (Fit o ∧ s1 = s.map (· ++ encOp o))) : BInv w p ops (k + 1) s1 q1 w1 := by
  obtain ⟨hW, hb, hqb, hsl, hkp⟩ := h
  have hsz := hkp.size
  have hkl : k < ops.length := (List.getElem?_eq_some_iff.1 ho).1
  have hto : ops.take (k + 1) = ops.take k ++ [o] := by
    rw [List.take_succ_eq_append_getElem hkl]
    congr 2
    have := (List.getElem?_eq_some_iff.1 ho).2
    exact this
  have hel : (encOp o).length ≤ 508 := by
    unfold encOp
    split
    · rw [num8_length]; omega
    · rw [enc_length]; omega
  refine ⟨hW1, (fun bs hbs => ?_), (fun b hb => ?_), ?_, hkp.trans hk1 (fun b _ h => ?_)⟩
  · rcases hs with hs | ⟨hf, hs⟩
    · rw [hs] at hbs; cases hbs
    · rcases s with _ | t
      · rw [hs] at hbs; cases hbs
      · obtain ⟨h1, h2⟩ := hb t rfl
        rw [hs] at hbs
        injection hbs with hbs
        refine ⟨?_, fun o' ho' => ?_⟩
        · rw [hto, ← hbs, h1, encAll, encAll, List.flatMap_append]
          simp
        · rw [hto] at ho'
          rcases List.mem_append.1 ho' with h | h
          · exact h2 o' h
          · rw [List.mem_singleton.1 h]; exact hf
  · rcases hn1 b hb with h | h
    · exact hqb b h
    · omega
  · rcases hs with hs | ⟨_, hs⟩
    · rw [hs]; simp
    · rcases s with _ | t
      · rw [hs]; simp
      · rw [hs]
        simp at hsl ⊢
        omega
  · rcases h with h | h
    · omega
    · exact hqb b h
theorem encAll_drop (ops : List OpR) (k : Nat) (o : OpR) (h : ops[k]? = some o) : encAll (ops.drop k) = encOp o ++ encAll (ops.drop (k + 1)) := by
  have hkl : k < ops.length := (List.getElem?_eq_some_iff.1 h).1
  have e := (List.getElem?_eq_some_iff.1 h).2
  rw [List.drop_eq_getElem_cons hkl, e]
  simp [encAll]
theorem Bytes.drewN {P : Nat → Prop} {w : World} {x : Option Addr} {bs : List Nat} (h : Bytes P w x bs) (n : Nat) : Bytes P (w.drewN n) x bs := h
theorem Keep.drewN {S : Nat → Prop} {a w : World} (h : Keep S a w) (n : Nat) : Keep S a (w.drewN n) := ⟨h.os, h.tape, h.output, h.size, h.block⟩

/-! ### A row of bytes, whatever they are, that is written into -/
def URow (w : World) (y : Option Addr) (n : Nat) (Q : Nat → Prop) : Prop := n = 0 ∨ ∃ g cur, Q g ∧ y = some ⟨g, 0, none⟩ ∧ At w g 5 cur ∧ ∀ i, i < n → ∃ z, cur[i]? = some (.int .u8 z)
theorem URow.keep {w w' : World} {y : Option Addr} {n : Nat} {Q S : Nat → Prop} (h : URow w y n Q) (k : Keep S w w') (hs : ∀ g, Q g → ¬ S g) : URow w' y n Q := by
  rcases h with h | ⟨g, cur, hq, hy, hA, hc⟩
  · exact .inl h
  · exact .inr ⟨g, cur, hq, hy, hA.keep k (hs g hq), hc⟩
theorem URow.at {w : World} {y : Option Addr} {n : Nat} {Q : Nat → Prop} (h : URow w y n Q) {i : Nat} (hi : i < n) :
    ∃ g z, Q g ∧ y = some ⟨g, 0, none⟩ ∧ w.cell? ⟨g, i, none⟩ = some (.int .u8 z) ∧ w.frozen? ⟨g, i, none⟩ = false ∧ g < w.heap.size ∧ ∀ u, Hid (URow (w.setCell ⟨g, i, none⟩ (.int .u8 u)) y n Q) := by
  rcases h with h | ⟨g, cur, hq, hy, hA, hc⟩
  · omega
  · obtain ⟨z, hz⟩ := hc i hi
    refine ⟨g, z, hq, hy, (hA.cell i).trans hz, hA.frozen i, hA.lt, fun u => .inr ⟨g, _, hq, hy, hA.put i _, fun j hj => ?_⟩⟩
    rw [Array.getElem?_setIfInBounds]
    by_cases e : i = j
    · subst e
      have : i < cur.size := (Array.getElem?_eq_some_iff.1 hz).1
      simp [this]
    · simp only [e, if_false]
      exact hc j hj
theorem URow.of_at {w : World} {g : Nat} {bs : List Nat} (h : At w g 5 (cellsOf bs).toArray) : URow w (some ⟨g, 0, none⟩) bs.length (fun b => b = g) :=
  .inr ⟨g, _, rfl, rfl, h, fun i hi => ⟨_, by have := cellsOf_at bs i hi; simpa using this⟩⟩
theorem URow.of_own {w : World} {y : Option Addr} {n cap : Nat} {bs : List Nat} (h : Own w (.slice y n cap) bs) : URow w y n (fun g => (Value.slice y n cap).ownBlock = some g) := by
  rcases h.1.2 with ⟨e, _⟩ | ⟨g, c, cur, e, _, hg, hnc, _, hs, ht⟩
  · injection e with e1 e2 e3
    exact .inl e2
  · injection e with e1 e2 e3
    subst e1 e2
    refine .inr ⟨g, cur, rfl, rfl, hg, fun i hi => ⟨(bs.getD i 0 : Nat), ?_⟩⟩
    rw [← cellsOf_at bs i hi, ← ht, Nat.mul_one, List.getElem?_take, if_pos hi, Array.getElem?_toList]

/-- What the last statement of the law reads: three slices, as strings. -/
def Three (Q R : Nat → Prop) (B : Nat) (y x a : Option Addr) (e b : List Nat) (w : World) : Prop := Bytes Q w y e ∧ Bytes R w x b ∧ Bytes (fun k => k < B) w a b
theorem Three.quiet {Q R : Nat → Prop} {B : Nat} {y x a : Option Addr} {e b : List Nat} {w w' : World} (h : Three Q R B y x a e b w) (k : Keep (fun _ => False) w w') : Three Q R B y x a e b w' := ⟨h.1.quiet k, h.2.1.quiet k, h.2.2.quiet k⟩
theorem Three.eqs {Q R : Nat → Prop} {B : Nat} {y x a : Option Addr} {e b : List Nat} {w : World} (h : Three Q R B y x a e b w) {m k n c : Nat} (hm : e.length = m) (hk : b.length = k) (hn : b.length = n) :
    Three Q R B y x a e b w ∧ (convert 24 9 (.slice y m m)).run Try.prog w = .ok (.string (str e)) w ∧ (convert 24 9 (.slice x k k)).run Try.prog w = .ok (.string (str b)) w ∧ (convert 24 9 (.slice a n c)).run Try.prog w = .ok (.string (str b)) w :=
  ⟨h, run_str h.1 m m hm, run_str h.2.1 k k hk, run_str h.2.2 n c hn⟩

end Go.Proofs.Ytnaodcldnjkklaa.Wd
