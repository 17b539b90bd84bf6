/-
  Words for memory: a block that is known whole; which blocks a call may have turned; a slice that reads as bytes; a row of bytes that the call itself made, and an append to it.
-/
import Derived.Test.YtlpeiejohgchmaaDoorRows
import Derived.Test.YtlpeiejohgchmaaDoorDMath
import Derived.WalkKit
import Derived.LoopTactic
import Derived.Lib.Hide
import Derived.Below
import Derived.Deep.AppendLies
import Derived.Deep.MidRow
import Derived.Laws.MakeOwn
import Derived.Laws.BytesArg
import Derived.ProofKit
import Derived.OpenShut
namespace Go.Proofs.YtlpeiejohgchmaaDoor.Fs
open Go.RowKit

/-! ### What may have turned -/
/-- Of the blocks that were there only those of S may have turned. -/
structure Keep (S : Nat → Prop) (a w : World) : Prop where
  os : w.os = a.os
  tape : w.tape = a.tape
  output : w.output = a.output
  size : a.heap.size ≤ w.heap.size
  block : ∀ k, k < a.heap.size → ¬ S k → w.heap[k]? = a.heap[k]?

theorem Keep.refl (S : Nat → Prop) (w : World) : Keep S w w := ⟨rfl, rfl, rfl, Nat.le_refl _, fun _ _ _ => rfl⟩
theorem Keep.trans {S T : Nat → Prop} {a b c : World} (h : Keep S a b) (k : Keep T b c) (hT : ∀ i, i < a.heap.size → T i → S i) : Keep S a c :=
  ⟨k.os.trans h.os, k.tape.trans h.tape, k.output.trans h.output, Nat.le_trans h.size k.size,
    fun i hi hs => (k.block i (Nat.lt_of_lt_of_le hi h.size) (fun ht => hs (hT i hi ht))).trans (h.block i hi hs)⟩
theorem Keep.mono {S T : Nat → Prop} {a b : World} (h : Keep S a b) (hT : ∀ i, i < a.heap.size → S i → T i) : Keep T a b :=
  ⟨h.os, h.tape, h.output, h.size, fun i hi ht => h.block i hi (fun hs => ht (hT i hi hs))⟩
theorem Keep.drew {S : Nat → Prop} {a w : World} (h : Keep S a w) : Keep S a w.drew := ⟨h.os, h.tape, h.output, h.size, h.block⟩
theorem Keep.alloc {S : Nat → Prop} {a w : World} (h : Keep S a w) (o : Obj) : Keep S a (w.alloc o) :=
  ⟨h.os, h.tape, h.output, Nat.le_trans h.size (by simp), fun k hk hs => (Below.heap_alloc _ _ _ (Nat.lt_of_lt_of_le hk h.size)).trans (h.block k hk hs)⟩
theorem Keep.setCell {S : Nat → Prop} {a w : World} (h : Keep S a w) {p : Addr} (hp : p.block < a.heap.size → S p.block) (u : Value) : Keep S a (w.setCell p u) :=
  ⟨h.os, h.tape, h.output, by simpa [World.setCell] using h.size, fun k hk hs => (Below.heap_setCell _ _ _ _ (by rintro rfl; exact hs (hp hk))).trans (h.block k hk hs)⟩
theorem Keep.grown {S : Nat → Prop} {a w w' : World} {row : Option Nat} (h : Keep S a w) (hg : w.grownBy w' row) (hr : ∀ k, row = some k → k < a.heap.size → S k) : Keep S a w' :=
  ⟨hg.os.trans h.os, hg.tape.trans h.tape, hg.output.trans h.output, Nat.le_trans h.size hg.size,
    fun k hk hs => (hg.block k (Nat.lt_of_lt_of_le hk h.size) (fun e => hs (hr k e.symm hk))).trans (h.block k hk hs)⟩
theorem Keep.of_below {a w : World} (h : Below a.heap.size a w) : Keep (fun _ => False) a w := ⟨h.os, h.tape, h.output, h.size, fun k hk _ => h.block k hk⟩
theorem Keep.below {S : Nat → Prop} {a w : World} (h : Keep S a w) {B : Nat} (hB : B ≤ a.heap.size) (hS : ∀ k, S k → B ≤ k) : Below B a w :=
  ⟨h.os, h.tape, h.output, h.size, fun k hk => h.block k (by omega) (fun hs => by have := hS k hs; omega)⟩
theorem Keep.cell {S : Nat → Prop} {a w : World} (h : Keep S a w) {p : Addr} {v : Value} (hp : a.cell? p = some v) (hs : ¬ S p.block) : w.cell? p = some v :=
  (World.cell?_of_block (w := a) (h.block p.block (World.block_lt_of_cell? a p hp) hs)).trans hp

/-! ### A block that is known whole -/
/-- Block g is the cells cs of that type, none frozen. -/
def At (w : World) (g : Nat) (t : TypeId) (cs : Array Value) : Prop := w.heap[g]? = some (.cells cs t (0, 0))
section
variable {w w' : World} {g : Nat} {t : TypeId} {cs : Array Value}
theorem At.lt (h : At w g t cs) : g < w.heap.size := by
  rcases Nat.lt_or_ge g w.heap.size with hlt | hge
  · exact hlt
  · unfold At at h; rw [Array.getElem?_eq_none hge] at h; cases h
theorem At.cell (h : At w g t cs) (i : Nat) : w.cell? ⟨g, i, none⟩ = cs[i]? := cell_of_row w g i cs t (0, 0) h
theorem At.frozen (h : At w g t cs) (i : Nat) : w.frozen? ⟨g, i, none⟩ = false := frozen_of_row w g i cs t h
theorem At.new (w : World) (t : TypeId) (cs : Array Value) : At (w.alloc (.cells cs t)) w.heap.size t cs := heap_alloc_new w _
theorem At.drew (h : At w g t cs) : At w.drew g t cs := h
theorem At.alloc (h : At w g t cs) (o : Obj) : At (w.alloc o) g t cs := (Below.heap_alloc w o g h.lt).trans h
theorem At.put (h : At w g t cs) (i : Nat) (u : Value) : At (w.setCell ⟨g, i, none⟩ u) g t (cs.setIfInBounds i u) := by
  unfold At at h ⊢
  simp [World.setCell, Array.getElem?_modify, h]
theorem At.far (h : At w g t cs) {p : Addr} (hp : g ≠ p.block) (u : Value) : At (w.setCell p u) g t cs := (Below.heap_setCell w p u g hp).trans h
theorem At.keep {S : Nat → Prop} (h : At w g t cs) (k : Keep S w w') (hs : ¬ S g) : At w' g t cs := (k.block g h.lt hs).trans h
theorem At.ne {g' : Nat} {t' : TypeId} {cs' : Array Value} (h : At w g t cs) (h' : At w g' t' cs') (hne : t ≠ t') : g ≠ g' := by
  rintro rfl
  unfold At at h h'
  rw [h] at h'
  injection h' with h'
  injection h' with _ ht
  exact hne ht
end

/-! ### A slice that reads as bytes -/
/-- The slice that begins at 'x' has 'bs' as its bytes; it lies in a block of P. -/
def Bytes (P : Nat → Prop) (w : World) (x : Option Addr) (bs : List Nat) : Prop :=
  (∀ c ∈ bs, c < 256) ∧ (bs = [] ∨ ∃ b off, P b ∧ x = some ⟨b, off, none⟩ ∧ ∀ i, i < bs.length → w.cell? ⟨b, off + i, none⟩ = some (.int .u8 ((bs.getD i 0 : Nat) : Int)))
section
variable {w w' : World} {P : Nat → Prop} {x : Option Addr} {bs : List Nat}
theorem Bytes.nil (P : Nat → Prop) (w : World) (x : Option Addr) : Bytes P w x [] := ⟨by simp, .inl rfl⟩
theorem Bytes.keep {S : Nat → Prop} (h : Bytes P w x bs) (k : Keep S w w') (hs : ∀ b, b < w.heap.size → P b → ¬ S b) : Bytes P w' x bs := by
  refine ⟨h.1, ?_⟩
  rcases h.2 with h0 | ⟨b, off, hp, rfl, hc⟩
  · exact .inl h0
  · by_cases h0 : bs = []
    · exact .inl h0
    · refine .inr ⟨b, off, hp, rfl, fun i hi => ?_⟩
      have hlt : b < w.heap.size := World.block_lt_of_cell? w _ (hc i hi)
      exact k.cell (hc i hi) (hs b hlt hp)
theorem Bytes.mono {Q : Nat → Prop} (h : Bytes P w x bs) (hq : ∀ b, b < w.heap.size → P b → Q b) : Bytes Q w x bs := by
  refine ⟨h.1, ?_⟩
  rcases h.2 with h0 | ⟨b, off, hp, rfl, hc⟩
  · exact .inl h0
  · by_cases h0 : bs = []
    · exact .inl h0
    · have hlt : b < w.heap.size := World.block_lt_of_cell? w _ (hc 0 (List.length_pos_iff.2 h0))
      exact .inr ⟨b, off, hq b hlt hp, rfl, hc⟩
theorem Bytes.quiet (h : Bytes P w x bs) (k : Keep (fun _ => False) w w') : Bytes P w' x bs := h.keep k (fun _ _ _ h => h)
theorem Bytes.at (h : Bytes P w x bs) (i : Nat) (hi : i < bs.length) :
    ∃ b off, P b ∧ x = some ⟨b, off, none⟩ ∧ w.cell? ⟨b, off + i, none⟩ = some (.int .u8 ((bs.getD i 0 : Nat) : Int)) := by
  rcases h.2 with h0 | ⟨b, off, hp, hx, hc⟩
  · subst h0; simp at hi
  · exact ⟨b, off, hp, hx, hc i hi⟩
theorem Bytes.take (h : Bytes P w x bs) (n : Nat) : Bytes P w x (bs.take n) := by
  refine ⟨fun c hc => h.1 c (List.mem_of_mem_take hc), ?_⟩
  rcases h.2 with h0 | ⟨b, off, hp, hx, hc⟩
  · left; simp [h0]
  · right
    refine ⟨b, off, hp, hx, fun i hi => ?_⟩
    have hi' : i < n ∧ i < bs.length := by simp at hi; omega
    rw [hc i hi'.2]
    have : (bs.take n).getD i 0 = bs.getD i 0 := by simp [hi'.1]
    rw [this]
theorem getD_lt (h : ∀ c ∈ bs, c < 256) (k : Nat) (hk : k < bs.length) : bs.getD k 0 < 256 := by
  have e : bs.getD k 0 = bs[k] := by simp [hk]
  rw [e]
  exact h _ (List.getElem_mem _)
end

/-- The bytes as cells. -/
def cellsOf (bs : List Nat) : List Value := bs.map fun (c : Nat) => Value.int .u8 (c : Int)
theorem cellsOf_length (bs : List Nat) : (cellsOf bs).length = bs.length := by simp [cellsOf]
theorem cellsOf_append (a b : List Nat) : cellsOf (a ++ b) = cellsOf a ++ cellsOf b := by simp [cellsOf]
theorem cellsOf_one (bs : List Nat) : ∀ u ∈ cellsOf bs, u.oneCell' = true := by
  intro u hu
  obtain ⟨c, _, rfl⟩ := List.mem_map.1 hu
  rfl
theorem cellsOf_at (bs : List Nat) (i : Nat) (h : i < bs.length) : (cellsOf bs)[i]? = some (.int .u8 ((bs.getD i 0 : Nat) : Int)) := by simp [cellsOf, h]
theorem Bytes.news {w : World} {P : Nat → Prop} {ad : Addr} {bs : List Nat} (h : Bytes P w (some ad) bs) : ∀ j u, (cellsOf bs)[j]? = some u → w.cell? (ad.add j) = some u := by
  intro j u hu
  have hj : j < bs.length := by have := (List.getElem?_eq_some_iff.1 hu).1; rwa [cellsOf_length] at this
  obtain ⟨b, off, _, hx, hc⟩ := h.at j hj
  injection hx with hx
  subst hx
  rw [Addr.add_mid, hc, ← hu, cellsOf_at _ _ hj]
theorem Bytes.of_at {w : World} {g : Nat} {t : TypeId} {bs : List Nat} (h : At w g t (cellsOf bs).toArray) (hb : ∀ c ∈ bs, c < 256) : Bytes (· = g) w (some ⟨g, 0, none⟩) bs := by
  refine ⟨hb, .inr ⟨g, 0, rfl, rfl, fun i hi => ?_⟩⟩
  rw [h.cell (0 + i), Nat.zero_add, ← cellsOf_at bs i hi]
  simp

theorem info5 : (Tryd.prog.info? 5).map (fun i => (i.zero, i.size, i.bytes)) = some (some (.int .u8 0), 1, 1) := by kernel_rfl

/-! ### A row of bytes that the call itself made -/
/-- v is nil, or a slice at the head of a row of its own; its bytes are bs. -/
def Own (w : World) (v : Value) (bs : List Nat) : Prop := w.ownsRow 0 5 1 v bs.length (cellsOf bs) ∧ ∀ c ∈ bs, c < 256
/-- Where the row lies now: where it lay, or in a block that is new. -/
def New (w : World) (q q' : Option Nat) : Prop := ∀ k, q' = some k → q = some k ∨ w.heap.size ≤ k
theorem New.refl (w : World) (q : Option Nat) : New w q q := fun _ h => .inl h
theorem New.trans {a b : World} {p q r : Option Nat} (h : New a p q) (k : New b q r) (hs : a.heap.size ≤ b.heap.size) : New a p r := fun i hi => by
  rcases k i hi with h1 | h1
  · exact h i h1
  · exact .inr (by omega)
theorem New.none (w : World) (q : Option Nat) : New w q none := fun _ h => by cases h
section
variable {w w' : World} {v : Value} {bs : List Nat}
theorem Own.empty (w : World) : Own w (.slice none 0 0) [] := ⟨World.ownsRow_nil w 0 5 1, by simp⟩
theorem Own.shape (h : Own w v bs) : ∃ x cap, v = .slice x bs.length cap ∧ Bytes (fun b => v.ownBlock = some b) w x bs := by
  rcases h.1.2 with ⟨rfl, h0⟩ | ⟨g, cap, cur, rfl, _, hg, hnc, hm, hs, ht⟩
  · have : bs = [] := List.eq_nil_of_length_eq_zero h0
    subst this
    exact ⟨_, _, rfl, Bytes.nil _ _ _⟩
  · refine ⟨_, _, rfl, h.2, .inr ⟨g, 0, rfl, rfl, fun i hi => ?_⟩⟩
    rw [cell_of_row w g (0 + i) cur 5 (0, 0) hg, Nat.zero_add, ← cellsOf_at bs i hi, ← ht, Nat.mul_one, List.getElem?_take, if_pos hi, Array.getElem?_toList]
theorem Own.lt (h : Own w v bs) : ∀ k, v.ownBlock = some k → k < w.heap.size := fun k hk => (h.1.lt k hk).2
theorem Own.keep {S : Nat → Prop} (h : Own w v bs) (k : Keep S w w') (hs : ∀ b, v.ownBlock = some b → ¬ S b) : Own w' v bs := by
  refine ⟨⟨h.1.1, ?_⟩, h.2⟩
  rcases h.1.2 with h0 | ⟨g, cap, cur, rfl, hb, hg, r⟩
  · exact .inl h0
  · exact .inr ⟨g, cap, cur, rfl, hb, (k.block g (At.lt (t := 5) hg) (hs g rfl)).trans hg, r⟩
theorem Own.ne {g : Nat} {t : TypeId} {cs : Array Value} (h : Own w v bs) (hg : At w g t cs) (ht : t ≠ 5) : v.ownBlock ≠ some g := by
  rcases h.1.2 with ⟨rfl, _⟩ | ⟨g', cap, cur, rfl, _, hh, _⟩
  · simp [Value.ownBlock]
  · intro he
    have : g' = g := by simpa [Value.ownBlock] using he
    subst this
    exact At.ne (t := 5) hh hg (Ne.symm ht) rfl
theorem Own.made (w : World) (bs : List Nat) (hb : ∀ c ∈ bs, c < 256) (hm : bs.length ≤ maxLen) : Own (w.alloc (.cells (cellsOf bs).toArray 5)) (.slice (some ⟨w.heap.size, 0, none⟩) bs.length bs.length) bs := by
  refine ⟨⟨by simp [cellsOf_length], .inr ⟨w.heap.size, bs.length, _, rfl, Nat.zero_le _, heap_alloc_new w _, Nat.le_refl _, hm, by simp [cellsOf_length], ?_⟩⟩, hb⟩
  simp [← cellsOf_length]
end

set_option maxRecDepth 100000 in
theorem run_append_bytes (ty : TypeId) (w : World) (v : Value) (bs : List Nat) (hown : Own w v bs) (P : Nat → Prop) (x : Option Addr) (m c : Nat) (cs : List Nat) (hm : cs.length = m) (h : Bytes P w x cs) (hl : bs.length + m ≤ 1099511627776) :
    ∃ y cap w', (Builtin.append_ #[25, 25] ty #[v, .slice x m c]).run Tryd.prog w = .ok (.slice y (bs.length + m) cap) w' ∧ Own w' (.slice y (bs.length + m) cap) (bs ++ cs) ∧
      Keep (fun k => v.ownBlock = some k) w w' ∧ New w v.ownBlock (Value.ownBlock (.slice y (bs.length + m) cap)) := by
  obtain ⟨i0, hi, hz0, hz1, hz2⟩ := info_parts info5
  subst hm
  rcases x with _ | ad
  · have hn : cs = [] := by
      rcases h.2 with h0 | ⟨b, off, _, hx, _⟩
      · exact h0
      · cases hx
    subst hn
    obtain ⟨y, cap, rfl, _⟩ := hown.shape
    refine ⟨y, cap, w, ?_, by simpa using hown, Keep.refl _ _, by simpa using New.refl w _⟩
    rcases hown.1.2 with ⟨h1, h2⟩ | ⟨g, cap', cur, h1, _, _, hnc, _⟩
    · injection h1 with e1 e2 e3
      subst e1 e3
      simp [Builtin.append_, run_underlying Tryd.underlying25, sizeOf, typeInfo, hi, Builtin.lenOf, Builtin.firstCells, h2]
    · injection h1 with e1 e2 e3
      subst e1 e3
      simp [Builtin.append_, run_underlying Tryd.underlying25, sizeOf, typeInfo, hi, Builtin.lenOf, Builtin.firstCells, hnc, storeCells]
  · obtain ⟨v', w', hr, h2, h3, _, h5⟩ := run_append_own_at (P := Tryd.prog) w 0 25 ty 5 i0 _ 1 1 Tryd.underlying25 hi hz0 hz1 hz2 rfl (by omega) v bs.length (cellsOf bs) hown.1 ad cs.length c (cellsOf cs) (by simp [cellsOf_length]) h.news (cellsOf_one cs) (by simp only [maxLen]; omega) (by omega) (Nat.zero_le _)
    have hO : Own w' v' (bs ++ cs) := ⟨by rw [cellsOf_append, List.length_append]; exact h2, fun c hc => by
      rcases List.mem_append.1 hc with hc | hc
      · exact hown.2 c hc
      · exact h.1 c hc⟩
    obtain ⟨y, cap, rfl, _⟩ := hO.shape
    rw [List.length_append] at hr hO h5
    refine ⟨y, cap, w', hr, hO, (Keep.refl _ w).grown h3 (fun k hk _ => hk), fun k hk => ?_⟩
    rcases h5 with h5 | h5
    · exact .inl (h5.symm.trans hk)
    · rw [h5] at hk
      injection hk with hk
      exact .inr (by omega)

/-- An append of bytes to a row of the call's own, at the list of a region's operations. -/
theorem wpList_append_bytes {w : World} {ops : Array Oper} {rest : List Oper} {o : Oper} {a : Act} {Q : Exit → Act → World → Prop} (hgd : o.guard = none) (s t : Operand)
    (ho : o.op = .call { callee := .builtin .append, args := #[s, t], argTypes := #[25, 25] })
    (v : Value) (bs : List Nat) (hs : a.eval s = v) (hown : Own w v bs) (P : Nat → Prop) (x : Option Addr) (m c : Nat) (cs : List Nat) (hx : a.eval t = .slice x m c) (hm : cs.length = m) (h : Bytes P w x cs) (hl : bs.length + m ≤ 1099511627776)
    (hK : ∀ y n cap w', Hid (n = (bs ++ cs).length) → Own w' (.slice y n cap) (bs ++ cs) → Keep (fun k => v.ownBlock = some k) w w' → New w v.ownBlock (Value.ownBlock (.slice y n cap)) → wpList Tryd.prog ops Q rest (a.put o.dst (.slice y n cap)) w') :
    wpList Tryd.prog ops Q (o :: rest) a w := by
  refine wpList_plain hgd fun K hK' => ?_
  obtain ⟨y, cap, w', hr, h2, h3, h4⟩ := run_append_bytes o.type w v bs hown P x m c cs hm h hl
  unfold Oper.wp execOp
  simp only [ho, resolve, invoke, builtin, Sem.run_bind, Sem.run_pure, Result.andThen_ok, List.map_toArray, List.map_cons, List.map_nil, hs, hx, hr]
  exact hK' _ _ (hK y _ cap w' (Lib.hid (by rw [List.length_append, hm])) h2 h3 h4)
/-- The same as a step of a region that draws its order. -/
theorem step_append_bytes {w : World} {ops : Array Oper} {o : Oper} {a : Act} {K : Act → World → Prop} {Q : Exit → Act → World → Prop} {E : Prop} (hgd : o.guard = none) (s t : Operand)
    (ho : o.op = .call { callee := .builtin .append, args := #[s, t], argTypes := #[25, 25] })
    (v : Value) (bs : List Nat) (hs : a.eval s = v) (hown : Own w v bs) (P : Nat → Prop) (x : Option Addr) (m c : Nat) (cs : List Nat) (hx : a.eval t = .slice x m c) (hm : cs.length = m) (h : Bytes P w x cs) (hl : bs.length + m ≤ 1099511627776)
    (hK : ∀ y n cap w', Hid (n = (bs ++ cs).length) → Own w' (.slice y n cap) (bs ++ cs) → Keep (fun k => v.ownBlock = some k) w w' → New w v.ownBlock (Value.ownBlock (.slice y n cap)) → K (a.put o.dst (.slice y n cap)) w') :
    if Region.wanted o (yielded ops a.tmps) = true then Oper.wp Tryd.prog o a w K Q else E := by
  have hw : Region.wanted o (yielded ops a.tmps) = true := by simp [Region.wanted, hgd]
  rw [if_pos hw]
  obtain ⟨y, cap, w', hr, h2, h3, h4⟩ := run_append_bytes o.type w v bs hown P x m c cs hm h hl
  unfold Oper.wp execOp
  simp only [ho, resolve, invoke, builtin, Sem.run_bind, Sem.run_pure, Result.andThen_ok, List.map_toArray, List.map_cons, List.map_nil, hs, hx, hr]
  exact hK y _ cap w' (Lib.hid (by rw [List.length_append, hm])) h2 h3 h4

/-! ### Bytes as a string -/
def str (bs : List Nat) : ByteArray := strOfNums (bs.map fun (c : Nat) => (c : Int))
theorem run_str {w : World} {P : Nat → Prop} {x : Option Addr} {bs : List Nat} (h : Bytes P w x bs) (n cap : Nat) (hn : bs.length = n) : (convert 25 9 (.slice x n cap)).run Tryd.prog w = .ok (.string (str bs)) w := by
  subst hn
  rcases h.2 with h0 | ⟨b, off, _, rfl, hc⟩
  · subst h0
    rcases x with _ | ad
    · have := run_convert_bytes_nil (P := Tryd.prog) w 25 5 Tryd.underlying25 Tryd.underlying5 0 cap 9 Tryd.underlying9
      exact this
    · rw [run_convert_bytes_string w 25 9 5 _ _ _ Tryd.underlying25 Tryd.underlying5 Tryd.underlying9, run_bytesToString w ad _ cap [] (by simp [loadCells, loadCellsFrom])]
      rfl
  · have := run_convert_bytes_arg (P := Tryd.prog) w 25 5 Tryd.underlying25 Tryd.underlying5 b off bs.length cap (bs.map fun (c : Nat) => (c : Int)) (by simp) (fun i hi => by rw [hc i hi]; simp [hi]) 9 Tryd.underlying9
    exact this

/-! ### Cuts; bytes that came in -/
theorem cut_pre (x : Option Addr) (L C n : Nat) (hn : n ≤ C) :
    (∀ w, (Instr.slice 25 (.slice x L C) none (some (.int .i64 (n : Int))) none).run Tryd.prog w = .ok (.slice x n C) w) ∧
    (∀ w, (Instr.sliceAt 25 (.slice x L C) none (some (.int .i64 (n : Int))) none).run Tryd.prog w = .ok (.slice x n C) w) := by
  obtain ⟨i0, hi, hz0, hz1, hz2⟩ := info_parts info5
  have h1 : (n : Int) ≤ (C : Int) := by omega
  have r : ∀ w, (Instr.slice 25 (.slice x L C) none (some (.int .i64 (n : Int))) none).run Tryd.prog w = .ok (.slice x n C) w := by
    intro w
    have hb : ∀ code, (Instr.sliceBound (.int .i64 (n : Int)) C code).run Tryd.prog w = .ok n w := by
      intro code; simp [Instr.sliceBound, asIntOf, h1]
    have e : (if C = 0 then x else x.map (fun a => a.add 0)) = x := by
      rcases x with _ | a <;> simp [Addr.add]
    simp [Instr.slice, run_underlying Tryd.underlying25, Instr.sliceBounds, hb, sizeOf, typeInfo, hi]
    simpa using e
  refine ⟨r, fun w => ?_⟩
  rw [← r w]
  simp [Instr.sliceAt, run_underlying Tryd.underlying25]
theorem bytes_of {w : World} {a : Option Addr} {len cap : Nat} {zs : List Int}
    (h : (a = none ∧ len = 0 ∧ cap = 0 ∧ zs = []) ∨
      ∃ x, a = some x ∧ len ≤ cap ∧ cap ≤ maxLen ∧ zs.length = cap ∧ (∀ i, i < zs.length → w.cell? (x.add i) = some (.int .u8 (zs.getD i 0))) ∧ ∀ n ∈ zs, (Lit.int .u8 n).wf = true) :
    ∃ bs : List Nat, bs.length = len ∧ len ≤ cap ∧ cap ≤ maxLen ∧ Bytes (fun b => b < w.heap.size) w a bs := by
  rcases h with ⟨rfl, rfl, rfl, rfl⟩ | ⟨x, rfl, hl, hm, hz, hcell, hwz⟩
  · exact ⟨[], rfl, Nat.le_refl _, Nat.zero_le _, Bytes.nil _ _ _⟩
  · refine ⟨(zs.take len).map Int.toNat, by simp; omega, hl, hm, ?_, ?_⟩
    · intro c hc
      obtain ⟨z, hz1, rfl⟩ := List.mem_map.1 hc
      have := bounds_u8 (hwz z (List.mem_of_mem_take hz1))
      omega
    · by_cases h0 : len = 0
      · left; simp [h0]
      · right
        obtain ⟨b, off, spot⟩ := x
        have hc0 := hcell 0 (by omega)
        have hspot : spot = none := by simpa [Addr.add] using World.cell?_spot hc0
        subst hspot
        refine ⟨b, off, ?_, rfl, fun i hi => ?_⟩
        · have := World.block_lt_of_cell? w _ hc0
          simpa [Addr.add] using this
        · have hi' : i < len := by simpa [hz, Nat.min_eq_left hl] using hi
          have hc := hcell i (by omega)
          rw [Addr.add_mid] at hc
          rw [hc]
          have hiz : i < zs.length := by omega
          have hw := bounds_u8 (hwz zs[i] (List.getElem_mem _))
          have e1 : zs.getD i 0 = zs[i] := by simp [hiz]
          have e2 : ((zs.take len).map Int.toNat).getD i 0 = zs[i].toNat := by simp [hiz, hi']
          rw [e1, e2]
          congr 2
          omega
theorem Own.cap_le {w : World} {x : Option Addr} {n cap : Nat} {bs : List Nat} (h : Own w (.slice x n cap) bs) : n ≤ cap := by
  rcases h.1.2 with ⟨e, _⟩ | ⟨g, cap', cur, e, _, _, hnc, _⟩
  · injection e with e1 e2 e3
    omega
  · injection e with e1 e2 e3
    omega
theorem Own.bytes {w : World} {x : Option Addr} {n cap : Nat} {bs : List Nat} (h : Own w (.slice x n cap) bs) : Bytes (fun b => (Value.slice x n cap).ownBlock = some b) w x bs := by
  obtain ⟨y, c, e, hB⟩ := h.shape
  injection e with e1 e2 e3
  subst e1
  exact hB


end Go.Proofs.YtlpeiejohgchmaaDoor.Fs
