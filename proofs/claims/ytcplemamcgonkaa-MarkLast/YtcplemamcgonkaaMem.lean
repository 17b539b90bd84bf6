/-
  Words for memory: a block that is known whole; which blocks a call may have turned; a slice that reads as bytes; a slice into a row that the call itself made, an append to it, what is left of it.
-/
import Derived.Test.YtcplemamcgonkaaRows
import Derived.Test.YtcplemamcgonkaaMath
import Derived.WalkKit
import Derived.LoopTactic
import Derived.Lib.Hide
import Derived.Below
import Derived.Deep.AppendLies
import Derived.Deep.MidRow
import Derived.Laws.MakeOwn
import Derived.Laws.BytesArg
import Derived.ProofKit
import Derived.OpenShut
import Derived.Deep.AppendSrc
import Derived.Deep.Upon
namespace Go.Proofs.Ytcplemamcgonkaa.Ln
open Go.RowKit
set_option linter.unusedVariables false

/-! ### What may have turned -/
/-- Of the blocks that were there only those of S may have turned. -/
structure Keep (S : Nat → Prop) (a w : World) : Prop where
  os : w.os = a.os
  tape : w.tape = a.tape
  output : w.output = a.output
  size : a.heap.size ≤ w.heap.size
  block : ∀ k, k < a.heap.size → ¬ S k → w.heap[k]? = a.heap[k]?

theorem Keep.refl (S : Nat → Prop) (w : World) : Keep S w w := ⟨rfl, rfl, rfl, Nat.le_refl _, fun _ _ _ => rfl⟩
theorem Keep.trans {S T : Nat → Prop} {a b c : World} (h : Keep S a b) (k : Keep T b c) (hT : ∀ i, i < a.heap.size → T i → S i) : Keep S a c :=
  ⟨k.os.trans h.os, k.tape.trans h.tape, k.output.trans h.output, Nat.le_trans h.size k.size,
    fun i hi hs => (k.block i (Nat.lt_of_lt_of_le hi h.size) (fun ht => hs (hT i hi ht))).trans (h.block i hi hs)⟩
theorem Keep.mono {S T : Nat → Prop} {a b : World} (h : Keep S a b) (hT : ∀ i, i < a.heap.size → S i → T i) : Keep T a b :=
  ⟨h.os, h.tape, h.output, h.size, fun i hi ht => h.block i hi (fun hs => ht (hT i hi hs))⟩
theorem Keep.drew {S : Nat → Prop} {a w : World} (h : Keep S a w) : Keep S a w.drew := ⟨h.os, h.tape, h.output, h.size, h.block⟩
theorem Keep.alloc {S : Nat → Prop} {a w : World} (h : Keep S a w) (o : Obj) : Keep S a (w.alloc o) :=
  ⟨h.os, h.tape, h.output, Nat.le_trans h.size (by simp), fun k hk hs => (Below.heap_alloc _ _ _ (Nat.lt_of_lt_of_le hk h.size)).trans (h.block k hk hs)⟩
theorem Keep.setCell {S : Nat → Prop} {a w : World} (h : Keep S a w) {p : Addr} (hp : p.block < a.heap.size → S p.block) (u : Value) : Keep S a (w.setCell p u) :=
  ⟨h.os, h.tape, h.output, by simpa [World.setCell] using h.size, fun k hk hs => (Below.heap_setCell _ _ _ _ (by rintro rfl; exact hs (hp hk))).trans (h.block k hk hs)⟩
theorem Keep.grown {S : Nat → Prop} {a w w' : World} {row : Option Nat} (h : Keep S a w) (hg : w.grownBy w' row) (hr : ∀ k, row = some k → k < a.heap.size → S k) : Keep S a w' :=
  ⟨hg.os.trans h.os, hg.tape.trans h.tape, hg.output.trans h.output, Nat.le_trans h.size hg.size,
    fun k hk hs => (hg.block k (Nat.lt_of_lt_of_le hk h.size) (fun e => hs (hr k e.symm hk))).trans (h.block k hk hs)⟩
theorem Keep.of_below {a w : World} (h : Below a.heap.size a w) : Keep (fun _ => False) a w := ⟨h.os, h.tape, h.output, h.size, fun k hk _ => h.block k hk⟩
theorem Keep.below {S : Nat → Prop} {a w : World} (h : Keep S a w) {B : Nat} (hB : B ≤ a.heap.size) (hS : ∀ k, S k → B ≤ k) : Below B a w :=
  ⟨h.os, h.tape, h.output, h.size, fun k hk => h.block k (by omega) (fun hs => by have := hS k hs; omega)⟩
theorem Keep.cell {S : Nat → Prop} {a w : World} (h : Keep S a w) {p : Addr} {v : Value} (hp : a.cell? p = some v) (hs : ¬ S p.block) : w.cell? p = some v :=
  (World.cell?_of_block (w := a) (h.block p.block (World.block_lt_of_cell? a p hp) hs)).trans hp

/-! ### A block that is known whole -/
/-- Block g is the cells cs of that type, none frozen. -/
def At (w : World) (g : Nat) (t : TypeId) (cs : Array Value) : Prop := w.heap[g]? = some (.cells cs t (0, 0))
section
variable {w w' : World} {g : Nat} {t : TypeId} {cs : Array Value}
theorem At.lt (h : At w g t cs) : g < w.heap.size := by
  rcases Nat.lt_or_ge g w.heap.size with hlt | hge
  · exact hlt
  · unfold At at h; rw [Array.getElem?_eq_none hge] at h; cases h
theorem At.cell (h : At w g t cs) (i : Nat) : w.cell? ⟨g, i, none⟩ = cs[i]? := cell_of_row w g i cs t (0, 0) h
theorem At.frozen (h : At w g t cs) (i : Nat) : w.frozen? ⟨g, i, none⟩ = false := frozen_of_row w g i cs t h
theorem At.new (w : World) (t : TypeId) (cs : Array Value) : At (w.alloc (.cells cs t)) w.heap.size t cs := heap_alloc_new w _
theorem At.drew (h : At w g t cs) : At w.drew g t cs := h
theorem At.alloc (h : At w g t cs) (o : Obj) : At (w.alloc o) g t cs := (Below.heap_alloc w o g h.lt).trans h
theorem At.put (h : At w g t cs) (i : Nat) (u : Value) : At (w.setCell ⟨g, i, none⟩ u) g t (cs.setIfInBounds i u) := by
  unfold At at h ⊢
  simp [World.setCell, Array.getElem?_modify, h]
theorem At.far (h : At w g t cs) {p : Addr} (hp : g ≠ p.block) (u : Value) : At (w.setCell p u) g t cs := (Below.heap_setCell w p u g hp).trans h
theorem At.keep {S : Nat → Prop} (h : At w g t cs) (k : Keep S w w') (hs : ¬ S g) : At w' g t cs := (k.block g h.lt hs).trans h
theorem At.ne {g' : Nat} {t' : TypeId} {cs' : Array Value} (h : At w g t cs) (h' : At w g' t' cs') (hne : t ≠ t') : g ≠ g' := by
  rintro rfl
  unfold At at h h'
  rw [h] at h'
  injection h' with h'
  injection h' with _ ht
  exact hne ht
end

/-! ### A slice that reads as bytes -/
/-- The slice that begins at 'x' has 'bs' as its bytes; it lies in a block of P. -/
def Bytes (P : Nat → Prop) (w : World) (x : Option Addr) (bs : List Nat) : Prop :=
  (∀ c ∈ bs, c < 256) ∧ (bs = [] ∨ ∃ b off, P b ∧ x = some ⟨b, off, none⟩ ∧ ∀ i, i < bs.length → w.cell? ⟨b, off + i, none⟩ = some (.int .u8 ((bs.getD i 0 : Nat) : Int)))
section
variable {w w' : World} {P : Nat → Prop} {x : Option Addr} {bs : List Nat}
theorem Bytes.nil (P : Nat → Prop) (w : World) (x : Option Addr) : Bytes P w x [] := ⟨by simp, .inl rfl⟩
theorem Bytes.keep {S : Nat → Prop} (h : Bytes P w x bs) (k : Keep S w w') (hs : ∀ b, b < w.heap.size → P b → ¬ S b) : Bytes P w' x bs := by
  refine ⟨h.1, ?_⟩
  rcases h.2 with h0 | ⟨b, off, hp, rfl, hc⟩
  · exact .inl h0
  · by_cases h0 : bs = []
    · exact .inl h0
    · refine .inr ⟨b, off, hp, rfl, fun i hi => ?_⟩
      have hlt : b < w.heap.size := World.block_lt_of_cell? w _ (hc i hi)
      exact k.cell (hc i hi) (hs b hlt hp)
theorem Bytes.mono {Q : Nat → Prop} (h : Bytes P w x bs) (hq : ∀ b, b < w.heap.size → P b → Q b) : Bytes Q w x bs := by
  refine ⟨h.1, ?_⟩
  rcases h.2 with h0 | ⟨b, off, hp, rfl, hc⟩
  · exact .inl h0
  · by_cases h0 : bs = []
    · exact .inl h0
    · have hlt : b < w.heap.size := World.block_lt_of_cell? w _ (hc 0 (List.length_pos_iff.2 h0))
      exact .inr ⟨b, off, hq b hlt hp, rfl, hc⟩
theorem Bytes.quiet (h : Bytes P w x bs) (k : Keep (fun _ => False) w w') : Bytes P w' x bs := h.keep k (fun _ _ _ h => h)
theorem Bytes.at (h : Bytes P w x bs) (i : Nat) (hi : i < bs.length) :
    ∃ b off, P b ∧ x = some ⟨b, off, none⟩ ∧ w.cell? ⟨b, off + i, none⟩ = some (.int .u8 ((bs.getD i 0 : Nat) : Int)) := by
  rcases h.2 with h0 | ⟨b, off, hp, hx, hc⟩
  · subst h0; simp at hi
  · exact ⟨b, off, hp, hx, hc i hi⟩
theorem Bytes.take (h : Bytes P w x bs) (n : Nat) : Bytes P w x (bs.take n) := by
  refine ⟨fun c hc => h.1 c (List.mem_of_mem_take hc), ?_⟩
  rcases h.2 with h0 | ⟨b, off, hp, hx, hc⟩
  · left; simp [h0]
  · right
    refine ⟨b, off, hp, hx, fun i hi => ?_⟩
    have hi' : i < n ∧ i < bs.length := by simp at hi; omega
    rw [hc i hi'.2]
    have : (bs.take n).getD i 0 = bs.getD i 0 := by simp [hi'.1]
    rw [this]
theorem getD_lt (h : ∀ c ∈ bs, c < 256) (k : Nat) (hk : k < bs.length) : bs.getD k 0 < 256 := by
  have e : bs.getD k 0 = bs[k] := by simp [hk]
  rw [e]
  exact h _ (List.getElem_mem _)
end

/-- The bytes as cells. -/
def cellsOf (bs : List Nat) : List Value := bs.map fun (c : Nat) => Value.int .u8 (c : Int)
theorem cellsOf_length (bs : List Nat) : (cellsOf bs).length = bs.length := by simp [cellsOf]
theorem cellsOf_append (a b : List Nat) : cellsOf (a ++ b) = cellsOf a ++ cellsOf b := by simp [cellsOf]
theorem cellsOf_one (bs : List Nat) : ∀ u ∈ cellsOf bs, u.oneCell' = true := by
  intro u hu
  obtain ⟨c, _, rfl⟩ := List.mem_map.1 hu
  rfl
theorem cellsOf_at (bs : List Nat) (i : Nat) (h : i < bs.length) : (cellsOf bs)[i]? = some (.int .u8 ((bs.getD i 0 : Nat) : Int)) := by simp [cellsOf, h]
theorem Bytes.news {w : World} {P : Nat → Prop} {ad : Addr} {bs : List Nat} (h : Bytes P w (some ad) bs) : ∀ j u, (cellsOf bs)[j]? = some u → w.cell? (ad.add j) = some u := by
  intro j u hu
  have hj : j < bs.length := by have := (List.getElem?_eq_some_iff.1 hu).1; rwa [cellsOf_length] at this
  obtain ⟨b, off, _, hx, hc⟩ := h.at j hj
  injection hx with hx
  subst hx
  rw [Addr.add_mid, hc, ← hu, cellsOf_at _ _ hj]
theorem Bytes.of_at {w : World} {g : Nat} {t : TypeId} {bs : List Nat} (h : At w g t (cellsOf bs).toArray) (hb : ∀ c ∈ bs, c < 256) : Bytes (· = g) w (some ⟨g, 0, none⟩) bs := by
  refine ⟨hb, .inr ⟨g, 0, rfl, rfl, fun i hi => ?_⟩⟩
  rw [h.cell (0 + i), Nat.zero_add, ← cellsOf_at bs i hi]
  simp

theorem info5 : (Try.prog.info? 5).map (fun i => (i.zero, i.size, i.bytes)) = some (some (.int .u8 0), 1, 1) := by kernel_rfl

/-! ### A slice into a row that the call itself made -/
/-- Where the row lies now: where it lay, or in a block that is new. -/
def New (w : World) (q q' : Option Nat) : Prop := ∀ k, q' = some k → q = some k ∨ w.heap.size ≤ k
theorem New.refl (w : World) (q : Option Nat) : New w q q := fun _ h => .inl h
theorem New.trans {a b : World} {p q r : Option Nat} (h : New a p q) (k : New b q r) (hs : a.heap.size ≤ b.heap.size) : New a p r := fun i hi => by
  rcases k i hi with h1 | h1
  · exact h i h1
  · exact .inr (by omega)
theorem New.none (w : World) (q : Option Nat) : New w q none := fun _ h => by cases h

/-- v is a slice of the bytes bs, with no room at all (q is none), or somewhere in the row of block q, which may be written, with its room. -/
def Mid (w : World) (v : Value) (q : Option Nat) (bs : List Nat) : Prop :=
  (∀ c ∈ bs, c < 256) ∧ ∃ x cap, v = .slice x bs.length cap ∧ bs.length ≤ cap ∧
    ((cap = 0 ∧ q = none) ∨ ∃ g off cur, x = some ⟨g, off, none⟩ ∧ q = some g ∧ At w g 5 cur ∧ off + cap ≤ cur.size ∧
      ∀ i, i < bs.length → cur[off + i]? = some (.int .u8 ((bs.getD i 0 : Nat) : Int)))
section
variable {w w' : World} {v : Value} {q : Option Nat} {bs : List Nat}
theorem Mid.empty (w : World) (x : Option Addr) : Mid w (.slice x 0 0) none [] := ⟨by simp, x, 0, rfl, Nat.le_refl _, .inl ⟨rfl, rfl⟩⟩
theorem Mid.lt (h : Mid w v q bs) : ∀ k, q = some k → k < w.heap.size := by
  rintro k rfl
  obtain ⟨_, x, cap, _, _, ⟨_, h0⟩ | ⟨g, off, cur, _, hq, hA, _⟩⟩ := h
  · cases h0
  · cases hq; exact hA.lt
theorem Mid.keep {S : Nat → Prop} (h : Mid w v q bs) (k : Keep S w w') (hs : ∀ b, q = some b → ¬ S b) : Mid w' v q bs := by
  obtain ⟨hb, x, cap, hv, hc, h0 | ⟨g, off, cur, hx, hq, hA, h1, h2⟩⟩ := h
  · exact ⟨hb, x, cap, hv, hc, .inl h0⟩
  · exact ⟨hb, x, cap, hv, hc, .inr ⟨g, off, cur, hx, hq, hA.keep k (hs g hq), h1, h2⟩⟩
theorem Mid.ne {g : Nat} {t : TypeId} {cs : Array Value} (h : Mid w v q bs) (hg : At w g t cs) (ht : t ≠ 5) : q ≠ some g := by
  rintro rfl
  obtain ⟨_, x, cap, _, _, ⟨_, h0⟩ | ⟨g', off, cur, _, hq, hA, _⟩⟩ := h
  · cases h0
  · cases hq; exact At.ne hg hA ht rfl
theorem Mid.shape (h : Mid w v q bs) : ∃ x cap, v = .slice x bs.length cap ∧ bs.length ≤ cap ∧ (x = none → cap = 0) ∧ Bytes (fun b => q = some b) w x bs := by
  obtain ⟨hb, x, cap, hv, hc, h0 | ⟨g, off, cur, hx, hq, hA, h1, h2⟩⟩ := h
  · have : bs = [] := List.eq_nil_of_length_eq_zero (by omega)
    subst this
    exact ⟨x, cap, hv, hc, fun _ => h0.1, Bytes.nil _ _ _⟩
  · refine ⟨x, cap, hv, hc, (fun e => by rw [hx] at e; cases e), hb, .inr ⟨g, off, hq, hx, fun i hi => ?_⟩⟩
    rw [hA.cell, h2 i hi]
/-- What is left behind n bytes. -/
theorem Mid.drop {x : Option Addr} {L C : Nat} (h : Mid w (.slice x L C) q bs) (n : Nat) (hn : n ≤ L) :
    ∃ q', Mid w (.slice (if C = n then x else x.map (fun a => a.add n)) (L - n) (C - n)) q' (bs.drop n) ∧ (q' = q ∨ q' = none) := by
  obtain ⟨hb, x', cap, hv, hc, h0⟩ := h
  injection hv with e1 e2 e3
  subst e1 e3
  have hb' : ∀ c ∈ bs.drop n, c < 256 := fun c hc => hb c (List.mem_of_mem_drop hc)
  have hl : L - n = (bs.drop n).length := by simp; omega
  by_cases hC : C = n
  · refine ⟨none, ⟨hb', _, _, by rw [hl], by rw [← hl]; omega, .inl ⟨by omega, rfl⟩⟩, .inr rfl⟩
  · rcases h0 with ⟨h0, _⟩ | ⟨g, off, cur, hx, hq, hA, h1, h2⟩
    · omega
    · refine ⟨q, ⟨hb', _, _, by rw [hl], by rw [← hl]; omega, .inr ⟨g, off + n, cur, ?_, hq, hA, by omega, fun i hi => ?_⟩⟩, .inl rfl⟩
      · rw [if_neg hC, hx]
        simp [Addr.add_mid]
      · have hi' : n + i < bs.length := by simp at hi; omega
        rw [Nat.add_assoc, h2 (n + i) hi']
        simp
theorem Mid.cap_le {x : Option Addr} {n cap : Nat} (h : Mid w (.slice x n cap) q bs) : n ≤ cap := by
  obtain ⟨_, x', cap', hv, hc, _⟩ := h
  injection hv with e1 e2 e3
  omega
theorem Mid.bytes {x : Option Addr} {n cap : Nat} (h : Mid w (.slice x n cap) q bs) : Bytes (fun b => q = some b) w x bs := by
  obtain ⟨y, c, e, _, _, hB⟩ := h.shape
  injection e with e1 e2 e3
  subst e1
  exact hB
theorem Mid.len {x : Option Addr} {n cap : Nat} (h : Mid w (.slice x n cap) q bs) : n = bs.length := by
  obtain ⟨y, c, e, _⟩ := h.shape
  injection e
theorem Mid.made (w : World) (bs : List Nat) (hb : ∀ c ∈ bs, c < 256) : Mid (w.alloc (.cells (cellsOf bs).toArray 5)) (.slice (some ⟨w.heap.size, 0, .none⟩) bs.length bs.length) (some w.heap.size) bs := by
  refine ⟨hb, _, _, rfl, Nat.le_refl _, .inr ⟨w.heap.size, 0, _, rfl, rfl, At.new w 5 _, by simp [cellsOf_length], fun i hi => ?_⟩⟩
  rw [Nat.zero_add, ← cellsOf_at bs i hi]
  simp
end

theorem At.setCells {t : TypeId} : ∀ (vs : List Value) (o : Nat) {w : World} {g : Nat} {cs : Array Value}, At w g t cs → ∃ cs', At (w.setCells g o vs) g t cs' ∧ cs'.size = cs.size
  | [], _, _, _, cs, h => ⟨cs, h, rfl⟩
  | v :: r, o, w, g, cs, h => by
    obtain ⟨cs', h1, h2⟩ := At.setCells r (o + 1) (h.put o v)
    exact ⟨cs', h1, by rw [h2]; simp⟩
theorem Keep.setCells {S : Nat → Prop} {a : World} {g : Nat} (hS : g < a.heap.size → S g) : ∀ (vs : List Value) (o : Nat) {w : World}, Keep S a w → Keep S a (w.setCells g o vs)
  | [], _, _, h => h
  | v :: r, o, w, h => Keep.setCells hS r (o + 1) (h.setCell (p := ⟨g, o, none⟩) hS v)

theorem Bytes.src {P : Nat → Prop} {w : World} {x : Option Addr} {cs : List Nat} (h : Bytes P w x cs) (c : Nat) : Src Try.prog 1 24 (.slice x cs.length c) cs.length (cellsOf cs) w := by
  rcases x with _ | ad
  · have hn : cs = [] := by
      rcases h.2 with h0 | ⟨b, off, _, hx, _⟩
      · exact h0
      · cases hx
    subst hn
    exact Src.ofNil w Try.underlying24 c
  · exact Src.ofSlice w Try.underlying24 ad cs.length c (cellsOf cs) (by simp [cellsOf_length]) h.news (cellsOf_one cs)

set_option maxRecDepth 100000 in
/-- An append of bytes, wherever they lie, to such a slice. -/
theorem run_append_mid (ty : TypeId) (w : World) (v : Value) (q : Option Nat) (bs : List Nat) (hM : Mid w v q bs) (P : Nat → Prop) (x : Option Addr) (m c : Nat) (cs : List Nat) (hm : cs.length = m) (h : Bytes P w x cs) (hl : bs.length + m ≤ 1099511627776) :
    ∃ y n cap q' w', (Builtin.append_ #[24, 24] ty #[v, .slice x m c]).run Try.prog w = .ok (.slice y n cap) w' ∧ Mid w' (.slice y n cap) q' (bs ++ cs) ∧ Keep (fun k => q = some k) w w' ∧ New w q q' := by
  obtain ⟨i0, hi, hz0, hz1, hz2⟩ := info_parts info5
  subst hm
  have hsrc : Src Try.prog i0.size 24 (.slice x cs.length c) cs.length (cellsOf cs) w := by rw [hz1]; exact h.src c
  have hall : ∀ c ∈ bs ++ cs, c < 256 := fun c hc => by
    rcases List.mem_append.1 hc with hc | hc
    · exact hM.1 c hc
    · exact h.1 c hc
  by_cases hm0 : cs = []
  · subst hm0
    obtain ⟨y, cap, rfl, hc, _⟩ := hM.shape
    exact ⟨y, bs.length, cap, q, w, run_append_nothing w 24 24 ty 5 i0 Try.underlying24 hi y bs.length cap hc _ hsrc, by simpa using hM, Keep.refl _ _, New.refl _ _⟩
  · have hpos : 0 < cs.length := List.length_pos_iff.2 hm0
    obtain ⟨y, cap, rfl, hcap, hy0, hB⟩ := hM.shape
    by_cases hroom : bs.length + cs.length ≤ cap
    · obtain ⟨hb, x', cap', hv, _, h0 | ⟨g, off, cur, hx, hq, hA, hsz, hcur⟩⟩ := hM
      · injection hv with e1 e2 e3
        omega
      · injection hv with e1 e2 e3
        subst e1 e3 hx
        have hcell : ∀ j, j < (cellsOf cs).length → (w.cell? ⟨g, off + bs.length * i0.size + j, none⟩).isSome = true := fun j hj => by
          rw [cellsOf_length] at hj
          rw [hA.cell, hz1, Array.getElem?_eq_getElem (by omega)]
          rfl
        have hr := run_append_room_src w 24 24 ty 5 i0 Try.underlying24 hi g off bs.length cap (.slice x cs.length c) cs.length (cellsOf cs) hsrc hroom hcell (fun j _ => hA.frozen _)
        obtain ⟨cs', hA', hsz'⟩ := hA.setCells (cellsOf cs) (off + bs.length * i0.size)
        rw [hz1, Nat.mul_one] at hr hcell hA'
        refine ⟨_, _, _, q, _, hr, ⟨hall, _, _, by rw [List.length_append], by rw [List.length_append]; exact hroom, .inr ⟨g, off, cs', rfl, hq, hA', by omega, fun i hi => ?_⟩⟩, Keep.setCells (fun _ => hq) _ _ (Keep.refl _ _), New.refl _ _⟩
        rw [← hA'.cell]
        by_cases hlt : i < bs.length
        · rw [World.cell?_setCells_out _ _ _ _ _ (fun _ _ => .inl (by simp; omega)), hA.cell, hcur i hlt]
          have e : (bs ++ cs).getD i 0 = bs.getD i 0 := by simp [List.getElem?_append_left hlt]
          rw [e]
        · obtain ⟨j, rfl⟩ : ∃ j, i = bs.length + j := ⟨i - bs.length, by omega⟩
          have hj : j < cs.length := by rw [List.length_append] at hi; omega
          rw [← Nat.add_assoc, World.cell?_setCells_in _ _ _ _ hcell j (by rw [cellsOf_length]; exact hj)]
          have e := cellsOf_at cs j hj
          rw [List.getElem?_eq_getElem (by rw [cellsOf_length]; exact hj)] at e
          rw [e]
          simp [hj]
    · have hold : (Builtin.firstCells i0.size bs.length (.slice y bs.length cap)).run Try.prog w.drew = .ok (cellsOf bs).toArray w.drew := by
        have := (hB.src cap).cellsD
        rw [hz1]
        exact this
      have hr := run_append_grow_src w 24 24 ty 5 i0 _ Try.underlying24 hi hz0 y bs.length cap (cellsOf bs) hold (.slice x cs.length c) cs.length (cellsOf cs) hsrc (by omega) (by omega) (growslice_fits (by omega) (by rw [hz2]; omega))
      refine ⟨_, _, _, some w.heap.size, _, hr, ⟨hall, _, _, by rw [List.length_append], by rw [List.length_append]; exact grownCap_ge _ _ _ _, .inr ⟨w.heap.size, 0, _, rfl, rfl, At.new w.drew 5 _, ?_, fun i hi => ?_⟩⟩, (Keep.refl _ w).drew.alloc _, fun k hk => .inr (by cases hk; exact Nat.le_refl _)⟩
      · have := grownCap_ge w (bs.length + cs.length) cap 5
        simp only [Array.size_append, List.size_toArray, List.length_append, cellsOf_length, size_zeroCells]
        simp [Value.cells]
        omega
      · have e := cellsOf_at (bs ++ cs) i hi
        rw [cellsOf_append] at e
        rw [← e, Nat.zero_add, Array.getElem?_append_left (by simp [cellsOf_length]; rw [List.length_append] at hi; exact hi)]
        simp

/-- The same at the list of a region's operations. -/
theorem wpList_append_mid {w : World} {ops : Array Oper} {rest : List Oper} {o : Oper} {a : Act} {Q : Exit → Act → World → Prop} (hgd : o.guard = none) (s t : Operand)
    (ho : o.op = .call { callee := .builtin .append, args := #[s, t], argTypes := #[24, 24] })
    (v : Value) (q : Option Nat) (bs : List Nat) (hs : a.eval s = v) (hM : Mid w v q bs) (P : Nat → Prop) (x : Option Addr) (m c : Nat) (cs : List Nat) (hx : a.eval t = .slice x m c) (hm : cs.length = m) (h : Bytes P w x cs) (hl : bs.length + m ≤ 1099511627776)
    (hK : ∀ y n cap q' w', Mid w' (.slice y n cap) q' (bs ++ cs) → Keep (fun k => q = some k) w w' → New w q q' → wpList Try.prog ops Q rest (a.put o.dst (.slice y n cap)) w') :
    wpList Try.prog ops Q (o :: rest) a w := by
  refine wpList_plain hgd fun K hK' => ?_
  obtain ⟨y, n, cap, q', w', hr, h2, h3, h4⟩ := run_append_mid o.type w v q bs hM P x m c cs hm h hl
  unfold Oper.wp execOp
  simp only [ho, resolve, invoke, builtin, Sem.run_bind, Sem.run_pure, Result.andThen_ok, List.map_toArray, List.map_cons, List.map_nil, hs, hx, hr]
  exact hK' _ _ (hK y n cap q' w' h2 h3 h4)

/-! ### Bytes as a string -/
def str (bs : List Nat) : ByteArray := strOfNums (bs.map fun (c : Nat) => (c : Int))
theorem run_str {w : World} {P : Nat → Prop} {x : Option Addr} {bs : List Nat} (h : Bytes P w x bs) (n cap : Nat) (hn : bs.length = n) : (convert 24 9 (.slice x n cap)).run Try.prog w = .ok (.string (str bs)) w := by
  subst hn
  rcases h.2 with h0 | ⟨b, off, _, rfl, hc⟩
  · subst h0
    rcases x with _ | ad
    · have := run_convert_bytes_nil (P := Try.prog) w 24 5 Try.underlying24 Try.underlying5 0 cap 9 Try.underlying9
      exact this
    · rw [run_convert_bytes_string w 24 9 5 _ _ _ Try.underlying24 Try.underlying5 Try.underlying9, run_bytesToString w ad _ cap [] (by simp [loadCells, loadCellsFrom])]
      rfl
  · have := run_convert_bytes_arg (P := Try.prog) w 24 5 Try.underlying24 Try.underlying5 b off bs.length cap (bs.map fun (c : Nat) => (c : Int)) (by simp) (fun i hi => by rw [hc i hi]; simp [hi]) 9 Try.underlying9
    exact this

/-! ### Cuts; bytes that came in -/
theorem cut_pre (x : Option Addr) (L C n : Nat) (hn : n ≤ C) :
    (∀ w, (Instr.slice 24 (.slice x L C) none (some (.int .i64 (n : Int))) none).run Try.prog w = .ok (.slice x n C) w) ∧
    (∀ w, (Instr.sliceAt 24 (.slice x L C) none (some (.int .i64 (n : Int))) none).run Try.prog w = .ok (.slice x n C) w) := by
  obtain ⟨i0, hi, hz0, hz1, hz2⟩ := info_parts info5
  have h1 : (n : Int) ≤ (C : Int) := by omega
  have r : ∀ w, (Instr.slice 24 (.slice x L C) none (some (.int .i64 (n : Int))) none).run Try.prog w = .ok (.slice x n C) w := by
    intro w
    have hb : ∀ code, (Instr.sliceBound (.int .i64 (n : Int)) C code).run Try.prog w = .ok n w := by
      intro code; simp [Instr.sliceBound, asIntOf, h1]
    have e : (if C = 0 then x else x.map (fun a => a.add 0)) = x := by
      rcases x with _ | a <;> simp [Addr.add]
    simp [Instr.slice, run_underlying Try.underlying24, Instr.sliceBounds, hb, sizeOf, typeInfo, hi]
    simpa using e
  refine ⟨r, fun w => ?_⟩
  rw [← r w]
  simp [Instr.sliceAt, run_underlying Try.underlying24]
theorem bytes_of {w : World} {a : Option Addr} {len cap : Nat} {zs : List Int}
    (h : (a = none ∧ len = 0 ∧ cap = 0 ∧ zs = []) ∨
      ∃ x, a = some x ∧ len ≤ cap ∧ cap ≤ maxLen ∧ zs.length = cap ∧ (∀ i, i < zs.length → w.cell? (x.add i) = some (.int .u8 (zs.getD i 0))) ∧ ∀ n ∈ zs, (Lit.int .u8 n).wf = true) :
    ∃ bs : List Nat, bs.length = len ∧ len ≤ cap ∧ cap ≤ maxLen ∧ Bytes (fun b => b < w.heap.size) w a bs := by
  rcases h with ⟨rfl, rfl, rfl, rfl⟩ | ⟨x, rfl, hl, hm, hz, hcell, hwz⟩
  · exact ⟨[], rfl, Nat.le_refl _, Nat.zero_le _, Bytes.nil _ _ _⟩
  · refine ⟨(zs.take len).map Int.toNat, by simp; omega, hl, hm, ?_, ?_⟩
    · intro c hc
      obtain ⟨z, hz1, rfl⟩ := List.mem_map.1 hc
      have := bounds_u8 (hwz z (List.mem_of_mem_take hz1))
      omega
    · by_cases h0 : len = 0
      · left; simp [h0]
      · right
        obtain ⟨b, off, spot⟩ := x
        have hc0 := hcell 0 (by omega)
        have hspot : spot = none := by simpa [Addr.add] using World.cell?_spot hc0
        subst hspot
        refine ⟨b, off, ?_, rfl, fun i hi => ?_⟩
        · have := World.block_lt_of_cell? w _ hc0
          simpa [Addr.add] using this
        · have hi' : i < len := by simpa [hz, Nat.min_eq_left hl] using hi
          have hc := hcell i (by omega)
          rw [Addr.add_mid] at hc
          rw [hc]
          have hiz : i < zs.length := by omega
          have hw := bounds_u8 (hwz zs[i] (List.getElem_mem _))
          have e1 : zs.getD i 0 = zs[i] := by simp [hiz]
          have e2 : ((zs.take len).map Int.toNat).getD i 0 = zs[i].toNat := by simp [hiz, hi']
          rw [e1, e2]
          congr 2
          omega
theorem cut_drop (x : Option Addr) (L C n : Nat) (hn : n ≤ L) (hL : L ≤ C) :
    (∀ w, (Instr.slice 24 (.slice x L C) (some (.int .i64 (n : Int))) none none).run Try.prog w = .ok (.slice (if C = n then x else x.map (fun a => a.add n)) (L - n) (C - n)) w) ∧
    (∀ w, (Instr.sliceAt 24 (.slice x L C) (some (.int .i64 (n : Int))) none none).run Try.prog w = .ok (.slice (if C = n then x else x.map (fun a => a.add n)) (L - n) (C - n)) w) := by
  obtain ⟨i0, hi, hz0, hz1, hz2⟩ := info_parts info5
  have h1 : (n : Int) ≤ (L : Int) := by omega
  have r : ∀ w, (Instr.slice 24 (.slice x L C) (some (.int .i64 (n : Int))) none none).run Try.prog w = .ok (.slice (if C = n then x else x.map (fun a => a.add n)) (L - n) (C - n)) w := by
    intro w
    have hb : ∀ code, (Instr.sliceBound (.int .i64 (n : Int)) L code).run Try.prog w = .ok n w := by
      intro code; simp [Instr.sliceBound, asIntOf, h1]
    simp [Instr.slice, run_underlying Try.underlying24, Instr.sliceBounds, hb, sizeOf, typeInfo, hi, hz1]
  refine ⟨r, fun w => ?_⟩
  rw [← r w]
  simp [Instr.sliceAt, run_underlying Try.underlying24]
/-- A slice cut in its middle. -/
theorem cut_mid (x : Option Addr) (L C l h : Nat) (hlh : l ≤ h) (hh : h ≤ C) :
    (∀ w, (Instr.slice 24 (.slice x L C) (some (.int .i64 (l : Int))) (some (.int .i64 (h : Int))) none).run Try.prog w = .ok (.slice (if C = l then x else x.map (fun a => a.add l)) (h - l) (C - l)) w) ∧
    (∀ w, (Instr.sliceAt 24 (.slice x L C) (some (.int .i64 (l : Int))) (some (.int .i64 (h : Int))) none).run Try.prog w = .ok (.slice (if C = l then x else x.map (fun a => a.add l)) (h - l) (C - l)) w) := by
  obtain ⟨i0, hi, hz0, hz1, hz2⟩ := info_parts info5
  have h1 : (h : Int) ≤ (C : Int) := by omega
  have h2 : (l : Int) ≤ (h : Int) := by omega
  have r : ∀ w, (Instr.slice 24 (.slice x L C) (some (.int .i64 (l : Int))) (some (.int .i64 (h : Int))) none).run Try.prog w = .ok (.slice (if C = l then x else x.map (fun a => a.add l)) (h - l) (C - l)) w := by
    intro w
    have hb : ∀ code, (Instr.sliceBound (.int .i64 (h : Int)) C code).run Try.prog w = .ok h w := by
      intro code; simp [Instr.sliceBound, asIntOf, h1]
    have hc : ∀ code, (Instr.sliceBound (.int .i64 (l : Int)) h code).run Try.prog w = .ok l w := by
      intro code; simp [Instr.sliceBound, asIntOf, h2]
    simp [Instr.slice, run_underlying Try.underlying24, Instr.sliceBounds, hb, hc, sizeOf, typeInfo, hi, hz1]
  refine ⟨r, fun w => ?_⟩
  rw [← r w]
  simp [Instr.sliceAt, run_underlying Try.underlying24]
theorem Bytes.mid {P : Nat → Prop} {w : World} {x : Option Addr} {bs : List Nat} (hB : Bytes P w x bs) (C l h : Nat) (hlh : l ≤ h) (hh : h ≤ bs.length) (hC : bs.length ≤ C) :
    Bytes P w (if C = l then x else x.map (fun a => a.add l)) ((bs.take h).drop l) := by
  refine ⟨fun c hc => hB.1 c (List.mem_of_mem_take (List.mem_of_mem_drop hc)), ?_⟩
  by_cases h0 : l = h
  · left; subst h0; simp
  · rcases hB.2 with h2 | ⟨b, off, hp, rfl, hc⟩
    · subst h2; left; simp
    · right
      rw [if_neg (by omega)]
      refine ⟨b, off + l, hp, by simp [Addr.add_mid], fun i hi => ?_⟩
      have hi' : l + i < h := by simp at hi; omega
      rw [Nat.add_assoc, hc (l + i) (by omega)]
      have e : ((bs.take h).drop l).getD i 0 = bs.getD (l + i) 0 := by simp [hi']
      rw [e]

end Go.Proofs.Ytcplemamcgonkaa.Ln
