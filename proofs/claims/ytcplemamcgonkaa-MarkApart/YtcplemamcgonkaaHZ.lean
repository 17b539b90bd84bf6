/-
  What mark's texts take of the layers below, at a seat without env: calls that only make memory, a writer and a row of the call's own, sums, the same bytes (at a seat that has E2, E4, F2, F3: those in its place).
-/
import Derived.Test.YtcplemamcgonkaaHMath
import Derived.Test.YtcplemamcgonkaaWPut
import Derived.Test.YtcplemamcgonkaaWRef
import Derived.Test.YtcplemamcgonkaaWRead
import Derived.Test.YtcplemamcgonkaaWEye
import Derived.Test.YtcplemamcgonkaaCRef
import Derived.Test.YtcplemamcgonkaaMg
import Derived.BigQuiet
import Derived.IntWalk
import Derived.Laws.ResultCell
import Derived.Laws.IdiomStrings
import Derived.Lib.Strings
namespace Go.Proofs.Ytcplemamcgonkaa.Ln
open Go.RowKit
set_option linter.unusedVariables false
set_option linter.unusedSimpArgs false

theorem keep_new (w : World) (o : Obj) : Keep (fun _ => False) w (w.alloc o) := (Keep.refl _ w).alloc o
/-- A call that makes no more than memory of its own. -/
def Quiet (v : Value) (w : World) (e : Ending) (w' : World) : Prop := e = .returned v ∧ Keep (fun _ => False) w w'
theorem quiet_of {v v' : Value} {w w' : World} (h : v' = v) (k : Keep (fun _ => False) w w') : Quiet v w (.returned v') w' := ⟨by rw [h], k⟩

/-! ### A writer of the call's own -/
structure Wg (w0 w : World) (p : Nat) (q : Option Nat) (s : List Nat) : Prop where
  wr : Wr w p q (some s)
  kp : Keep (fun _ => False) w0 w
  pn : w0.heap.size ≤ p
  pl : p < w.heap.size
  qn : ∀ b, q = some b → w0.heap.size ≤ b
theorem Wg.new {w0 w : World} (k : Keep (fun _ => False) w0 w) : Wg w0 (w.alloc (.cells #[.slice none 0 0, .bool false] 46)) w.heap.size none [] := ⟨Wr.new w, k.alloc _, k.size, by simp, fun b hb => by cases hb⟩
theorem Wg.quiet {w0 w w' : World} {p : Nat} {q : Option Nat} {s : List Nat} (h : Wg w0 w p q s) (k : Keep (fun _ => False) w w') : Wg w0 w' p q s := ⟨h.wr.keep k (fun h => h) (fun _ _ h => h), h.kp.trans k (fun _ _ h => h), h.pn, Nat.lt_of_lt_of_le h.pl k.size, h.qn⟩
theorem Wg.more {w0 w w' : World} {p : Nat} {q : Option Nat} {s s' : List Nat} {e : Ending} (h : Wg w0 w p q s) (d : WrP p q (some s') w e w') : e = .returned (.tuple #[]) ∧ ∃ q', Wg w0 w' p q' s' := by
  obtain ⟨q', he, h1, h2, h3⟩ := d
  refine ⟨he, q', h1, h.kp.trans h2 (fun i hi hs => ?_), h.pn, Nat.lt_of_lt_of_le h.pl h2.size, fun b hb => ?_⟩
  · rcases hs with rfl | hs
    · have := h.pn; omega
    · have := h.qn i hs; omega
  · rcases h3 b hb with h4 | h4
    · exact h.qn b h4
    · exact Nat.le_trans h.kp.size h4
theorem Wg.num {w0 w : World} {p : Nat} {q : Option Nat} {s : List Nat} (h : Wg w0 w p q s) (n : Int) (h0 : 0 ≤ n) (h1 : n ≤ 4611686018427387904) (hl : s.length ≤ 1000000) :
    Calls Try.prog 21 #[.pointer (some ⟨p, 0, none⟩), .int .i64 n] w fun e w' => e = .returned (.tuple #[]) ∧ ∃ q', Wg w0 w' p q' (s ++ num8 n.toNat) := by
  refine (wNum p q (some s) n (by simp; omega) w h.wr).mono fun e w' d => ?_
  rw [putNum, if_pos ⟨h0, h1⟩] at d
  exact h.more d
/-- Bytes that lay there ahead of the writer. -/
theorem Wg.far {w0 w : World} {p : Nat} {q : Option Nat} {s : List Nat} (h : Wg w0 w p q s) : ∀ k, k < w.heap.size → k < w0.heap.size → k ≠ p ∧ q ≠ some k := fun k _ hk => ⟨by have := h.pn; omega, fun e => by have := h.qn k e; omega⟩
/-- Bytes that were made behind the writer's last call. -/
theorem Wg.near {w0 w w' : World} {p : Nat} {q : Option Nat} {s : List Nat} (h : Wg w0 w p q s) : ∀ k, k < w'.heap.size → k = w.heap.size → k ≠ p ∧ q ≠ some k := fun k _ hk => ⟨by have := h.pl; omega, fun e => by have := h.wr.lt k e; omega⟩

theorem Bytes.crc {P : Nat → Prop} {w : World} {x : Option Addr} {bs : List Nat} (h : Bytes P w x bs) : Crc.Bytes w x bs := by
  refine ⟨h.1, ?_⟩
  rcases h.2 with h0 | ⟨b, off, _, hx, hc⟩
  · exact .inl h0
  · exact .inr ⟨b, off, hx, hc⟩
theorem sumC {P : Nat → Prop} {w : World} (x : Option Addr) (n cap : Nat) (bs : List Nat) (hn : n = bs.length) (hl : n ≤ 1000000) (h : Bytes P w x bs) :
    Calls Try.prog 31 #[.slice x n cap] w fun e w' => e = .returned (.int .u32 ((Crc.sum bs : Nat) : Int)) ∧ Keep (fun _ => False) w w' := by
  subst hn
  exact (Crc.sumOf x cap bs (by omega) w h.crc).mono fun e w' ⟨he, hb⟩ => ⟨he, Keep.of_below hb⟩
/-! ### A row of bytes that grows -/
theorem wp_append_runB {o : Oper} {a : Act} {w w' : World} {K : Act → World → Prop} {Q : Exit → Act → World → Prop} {s t : Operand} {T U : TypeId} {v u r : Value} (ho : o.op = .call { callee := .builtin .append, args := #[s, t], argTypes := #[T, U] }) (hs : a.eval s = v) (hx : a.eval t = u)
    (hr : (Builtin.append_ #[T, U] o.type #[v, u]).run Try.prog w = .ok r w') (hK : K (a.put o.dst r) w') : o.wp Try.prog a w K Q := by
  unfold Oper.wp execOp
  simp only [ho, resolve, invoke, builtin, Sem.run_bind, Sem.run_pure, Result.andThen_ok, List.map_toArray, List.map_cons, List.map_nil, hs, hx, hr]
  exact hK
structure Gr (w0 w : World) (v : Value) (bs : List Nat) : Prop where
  own : Own w v bs
  new : ∀ b, v.ownBlock = some b → w0.heap.size ≤ b
  kp : Keep (fun _ => False) w0 w
theorem Gr.quiet {w0 w w' : World} {v : Value} {bs : List Nat} (h : Gr w0 w v bs) (k : Keep (fun _ => False) w w') : Gr w0 w' v bs := ⟨h.own.keep k (fun _ _ h => h), h.new, h.kp.trans k (fun _ _ h => h)⟩
theorem Gr.of_copy {w0 w w' : World} {g m : Nat} {bs : List Nat} (k0 : Keep (fun _ => False) w0 w) (hm : m = bs.length) (hg : w.heap.size ≤ g) (hat : At w' g 5 (cellsOf bs).toArray) (k : Keep (fun _ => False) w w') (hb : ∀ c ∈ bs, c < 256) (hl : m ≤ 1000000) : Gr w0 w' (.slice (some ⟨g, 0, none⟩) m m) bs := by
  subst hm
  refine ⟨Own.of_at hat hb (by simp only [maxLen]; omega), fun b hb => ?_, k0.trans k (fun _ _ h => h)⟩
  injection hb with hb
  have := k0.size
  simp at hb
  omega
theorem Gr.app {w0 w : World} {v : Value} {bs : List Nat} (h : Gr w0 w v bs) (ty : TypeId) (P : Nat → Prop) (x : Option Addr) (m c : Nat) (cs : List Nat) (hm : cs.length = m) (hB : Bytes P w x cs) (hl : bs.length + m ≤ 1000000) :
    ∃ y n cap w', (Builtin.append_ #[24, 24] ty #[v, .slice x m c]).run Try.prog w = .ok (.slice y n cap) w' ∧ n = (bs ++ cs).length ∧ Gr w0 w' (.slice y n cap) (bs ++ cs) ∧ Keep (fun k => v.ownBlock = some k) w w' := by
  obtain ⟨y, cap, w', hr, h2, h3, h4⟩ := run_append_bytes ty w v bs h.own P x m c cs hm hB (by omega)
  have e : bs.length + m = (bs ++ cs).length := by rw [List.length_append, hm]
  rw [e] at hr h2 h4
  refine ⟨y, _, cap, w', hr, rfl, ⟨h2, fun b hb => ?_, h.kp.trans h3 (fun i hi e => by have := h.new i e; omega)⟩, h3⟩
  rcases h4 b hb with h5 | h5
  · exact h.new b h5
  · exact Nat.le_trans h.kp.size h5
theorem Gr.up {w0 w1 w : World} {v : Value} {bs : List Nat} (h : Gr w1 w v bs) (k : Keep (fun _ => False) w0 w1) : Gr w0 w v bs := ⟨h.own, fun b hb => Nat.le_trans k.size (h.new b hb), k.trans h.kp (fun _ _ h => h)⟩
theorem wpList_app {w0 w : World} {ops : Array Oper} {rest : List Oper} {o : Oper} {a : Act} {Q : Exit → Act → World → Prop} (hgd : o.guard = none) (s t : Operand)
    (ho : o.op = .call { callee := .builtin .append, args := #[s, t], argTypes := #[24, 24] })
    (v : Value) (bs : List Nat) (hs : a.eval s = v) (h : Gr w0 w v bs) (P : Nat → Prop) (x : Option Addr) (m c : Nat) (cs : List Nat) (hx : a.eval t = .slice x m c) (hm : cs.length = m) (hB : Bytes P w x cs) (hl : bs.length + m ≤ 1000000)
    (hK : ∀ y n cap w', Hid (n = (bs ++ cs).length) → Gr w0 w' (.slice y n cap) (bs ++ cs) → wpList Try.prog ops Q rest (a.put o.dst (.slice y n cap)) w') :
    wpList Try.prog ops Q (o :: rest) a w := by
  refine wpList_plain hgd fun K hK' => ?_
  obtain ⟨y, n, cap, w', hr, hn, h2, _⟩ := h.app o.type P x m c cs hm hB hl
  exact wp_append_runB ho hs hx hr (hK' _ _ (hK y n cap w' (Lib.hid hn) h2))
theorem refNumI (i : Int) (h0 : 0 ≤ i) (h1 : i ≤ 4611686018427387904) (w : World) : Calls Try.prog 24 #[.int .i64 i] w (Copy (num8 i.toNat) w) := by
  have := refNum i.toNat (by omega) w
  rw [show ((i.toNat : Nat) : Int) = i by omega] at this
  exact this
theorem Own.bytesO {w : World} {x : Option Addr} {n cap : Nat} {bs : List Nat} (h : Own w (.slice x n cap) bs) : Bytes (fun _ => True) w x bs ∧ n = bs.length ∧ n ≤ cap := by
  obtain ⟨x', cap', hv, hB⟩ := h.shape
  injection hv with e1 e2 e3
  subst e1 e3
  refine ⟨hB.mono (fun _ _ _ => trivial), e2, ?_⟩
  rcases h.1.2 with ⟨hv, h0⟩ | ⟨g, cap', cur, hv, _, _, hnc, _⟩
  · injection hv with _ e2' e3'
    omega
  · injection hv with _ e2' e3'
    omega

theorem and255 (n : Nat) (h : n < 4294967296) : bits .and .u32 (n : Int) 255 = (n : Int) % 256 := by
  have := u32_and_nat n 255 h (by omega)
  rw [show n &&& 255 = n % 256 from Nat.and_two_pow_sub_one_eq_mod n 8] at this
  simpa using this
/-! ### The same bytes? -/
def ns (A : ByteArray) : List Nat := A.data.toList.map UInt8.toNat
theorem ns_length (A : ByteArray) : (ns A).length = A.size := by simp [ns]
theorem ns_lt (A : ByteArray) : ∀ c ∈ ns A, c < 256 := fun c hc => by
  obtain ⟨u, _, rfl⟩ := List.mem_map.1 hc
  exact u.toNat_lt
theorem str_ns (A : ByteArray) : str (ns A) = A := by
  apply ByteArray.ext
  apply Array.ext'
  simp [str, strOfNums, ns, Function.comp_def]
theorem ns_str {l : List Nat} (h : ∀ c ∈ l, c < 256) : ns (str l) = l := by
  simp only [ns, str, strOfNums, List.map_map]
  conv => rhs; rw [← List.map_id l]
  refine List.map_congr_left fun c hc => ?_
  have := h c hc
  simp
  omega
theorem str_size (bs : List Nat) : (str bs).size = bs.length := by simp [str, strOfNums_size]
theorem str_append (a b : List Nat) : str a ++ str b = str (a ++ b) := by
  apply ByteArray.ext
  apply Array.ext'
  simp [str, strOfNums]
theorem str_inj {a b : List Nat} (ha : ∀ c ∈ a, c < 256) (hb : ∀ c ∈ b, c < 256) (h : str a = str b) : a = b := by
  rw [← ns_str ha, ← ns_str hb, h]
theorem list_beq {s t : ByteArray} (h : s ≠ t) : (s.toList == t.toList) = false := by
  rw [beq_eq_false_iff_ne]
  intro e
  apply h
  rw [Lib.toList_data, Lib.toList_data] at e
  apply ByteArray.ext
  exact Array.ext' e
theorem list_bne {s t : ByteArray} (h : s ≠ t) : (s.toList != t.toList) = true := by
  rw [bne, list_beq h]; rfl

set_option maxHeartbeats 1000000 in
theorem equalC {P Q : Nat → Prop} {w : World} (x : Option Addr) (n c : Nat) (a : List Nat) (y : Option Addr) (m d : Nat) (b : List Nat) (hn : a.length = n) (hm : b.length = m) (hA : Bytes P w x a) (hB : Bytes Q w y b) :
    Calls Try.prog 33 #[.slice x n c, .slice y m d] w fun e w' => e = .returned (.bool (decide (a = b))) ∧ w' = w := by
  have r1 := run_str hA n c hn
  have r2 := run_str hB m d hm
  by_cases hab : a = b
  · subst hab
    obtain ⟨s, hs⟩ : ∃ s, s = str a := ⟨_, rfl⟩
    rw [← hs] at r1 r2
    rw [show decide (a = a) = true from decide_eq_true rfl]
    clear hA hB hn hm hs
    go_enter Try.func33, Try.ntmps33
    go_wp2
    go_ret
    exact ⟨rfl, rfl⟩
  · have hne := list_beq (fun h => hab (str_inj hA.1 hB.1 h))
    obtain ⟨s, hs⟩ : ∃ s, s = str a := ⟨_, rfl⟩
    obtain ⟨t, ht⟩ : ∃ t, t = str b := ⟨_, rfl⟩
    rw [← hs] at r1 hne
    rw [← ht] at r2 hne
    rw [show decide (a = b) = false from decide_eq_false hab]
    clear hA hB hn hm hs ht hab
    go_enter Try.func33, Try.ntmps33
    go_wp2
    go_ret
    exact ⟨rfl, rfl⟩
theorem keepDrewN {S : Nat → Prop} {a w : World} (h : Keep S a w) (n : Nat) : Keep S a (w.drewN n) := ⟨h.os, h.tape, h.output, h.size, h.block⟩
theorem Keep.setRow {S : Nat → Prop} {a w : World} (h : Keep S a w) {g : Nat} (hg : g < a.heap.size → S g) (cs : Array Value) : Keep S a (w.setRow g cs) :=
  ⟨h.os, h.tape, h.output, by rw [size_setRow]; exact h.size, fun k hk hs => (setRow_other w g k cs (fun e => by subst e; exact hs (hg hk))).trans (h.block k hk hs)⟩
theorem At.setRow {w : World} {g : Nat} {t : TypeId} {cs : Array Value} (h : At w g t cs) (cs' : Array Value) : At (w.setRow g cs') g t cs' := setRow_heap w g _ _ _ _ h
end Go.Proofs.Ytcplemamcgonkaa.Ln
