/-
  Several texts in one: Math Mem Dot Sb.
-/
import Derived.Lib.IndexLaws
import Derived.Lib.Bytes
import Derived.Test.YtimoebicacnihaaGreatDoorRows
import Derived.WalkKit
import Derived.LoopTactic
import Derived.Lib.Hide
import Derived.Below
import Derived.Deep.AppendLies
import Derived.Deep.MidRow
import Derived.Laws.MakeOwn
import Derived.Laws.BytesArg
import Derived.ProofKit
import Derived.OpenShut
import Derived.Deep.AppendSrc
import Derived.Deep.Upon
import Derived.Laws.IdiomStrings
import Derived.Lib.Strings

section
/-
  Lines of bytes, as plain lists: where the first end (13, then 10) stands; what is asked for, and what is left.
-/
namespace Go.Proofs.YtimoebicacnihaaGreatDoor.Ln
set_option linter.unusedVariables false

/-- An end begins at place i. -/
def hit (bs : List Nat) (i : Nat) : Bool := bs[i]? == some 13 && bs[i + 1]? == some 10
/-- Where the first end begins. -/
def pos : List Nat → Option Nat
  | [] => none
  | c :: t => if hit (c :: t) 0 then some 0 else (pos t).map (· + 1)

theorem hit_succ (c : Nat) (t : List Nat) (i : Nat) : hit (c :: t) (i + 1) = hit t i := by simp [hit]
theorem hit_nil (i : Nat) : hit [] i = false := by simp [hit]

theorem pos_first : ∀ {bs : List Nat} {i : Nat}, hit bs i = true → (∀ j, j < i → hit bs j = false) → pos bs = some i
  | [], i, h, _ => by rw [hit_nil] at h; cases h
  | c :: t, 0, h, _ => by simp [pos, h]
  | c :: t, i + 1, h, hn => by
    have h0 := hn 0 (Nat.succ_pos _)
    rw [hit_succ] at h
    have ih := pos_first h (fun j hj => by have := hn (j + 1) (by omega); rwa [hit_succ] at this)
    simp [pos, h0, ih]
theorem pos_none : ∀ {bs : List Nat}, (∀ j, hit bs j = false) → pos bs = none
  | [], _ => rfl
  | c :: t, h => by
    have h0 := h 0
    have ih := pos_none (bs := t) (fun j => by have := h (j + 1); rwa [hit_succ] at this)
    simp [pos, h0, ih]
theorem pos_some_hit : ∀ {bs : List Nat} {i : Nat}, pos bs = some i → hit bs i = true ∧ ∀ j, j < i → hit bs j = false
  | [], i, h => by simp [pos] at h
  | c :: t, i, h => by
    unfold pos at h
    split at h
    · rename_i h0
      obtain rfl : 0 = i := by simpa using h
      exact ⟨h0, fun j hj => absurd hj (Nat.not_lt_zero _)⟩
    · rename_i h0
      cases hp : pos t with
      | none => rw [hp] at h; cases h
      | some k =>
        rw [hp] at h
        obtain rfl : k + 1 = i := by simpa using h
        obtain ⟨h1, h2⟩ := pos_some_hit hp
        refine ⟨by rw [hit_succ]; exact h1, fun j hj => ?_⟩
        cases j with
        | zero => simpa using h0
        | succ j => rw [hit_succ]; exact h2 j (by omega)
theorem pos_none_hit : ∀ {bs : List Nat}, pos bs = none → ∀ j, hit bs j = false
  | [], _, j => hit_nil j
  | c :: t, h, j => by
    unfold pos at h
    split at h
    · cases h
    · rename_i h0
      have hp : pos t = none := by simpa using h
      cases j with
      | zero => simpa using h0
      | succ j => rw [hit_succ]; exact pos_none_hit hp j
theorem hit_lt {bs : List Nat} {i : Nat} (h : hit bs i = true) : i + 2 ≤ bs.length := by
  simp [hit] at h
  have := (List.getElem?_eq_some_iff.1 h.2).1
  omega
theorem pos_lt {bs : List Nat} {i : Nat} (h : pos bs = some i) : i + 2 ≤ bs.length := hit_lt (pos_some_hit h).1

/-- As the library looks for it. -/
theorem index_pos : ∀ {bs : List Nat}, (∀ c ∈ bs, c < 256) → Lib.index (Lib.bytesOf (bs.map fun (c : Nat) => (c : Int))) [13, 10] = match pos bs with | none => -1 | some i => (i : Int)
  | [], _ => rfl
  | c :: t, h => by
    have ih := index_pos (bs := t) (fun x hx => h x (List.mem_cons_of_mem _ hx))
    have e : Lib.bytesOf ((c :: t).map fun (c : Nat) => (c : Int)) = UInt8.ofNat c :: Lib.bytesOf (t.map fun (c : Nat) => (c : Int)) := by simp [Lib.bytesOf]
    have hb : ∀ (x : Nat) (k : Nat), x < 256 → k < 256 → ((UInt8.ofNat k == UInt8.ofNat x) = (x == k)) := by
      intro x k hx hk
      rw [Bool.eq_iff_iff, beq_iff_eq, beq_iff_eq]
      constructor
      · intro he
        have := congrArg UInt8.toNat he
        simp at this
        omega
      · rintro rfl; rfl
    have hp : ([13, 10] : List UInt8).isPrefixOf (UInt8.ofNat c :: Lib.bytesOf (t.map fun (c : Nat) => (c : Int))) = hit (c :: t) 0 := by
      have hc := hb c 13 (h c (by simp)) (by omega)
      cases t with
      | nil => simp [List.isPrefixOf, Lib.bytesOf, hit]
      | cons d t =>
        have hd := hb d 10 (h d (by simp)) (by omega)
        have e13 : (13 : UInt8) = UInt8.ofNat 13 := rfl
        have e10 : (10 : UInt8) = UInt8.ofNat 10 := rfl
        simp only [List.isPrefixOf, Lib.bytesOf, List.map_cons, Int.toNat_natCast, hit]
        rw [e13, e10, hc, hd]
        simp
    rw [e]
    unfold Lib.index pos
    rw [hp, ih]
    split
    · rfl
    · cases pos t with
      | none => rfl
      | some i =>
        have : ((i : Int) == -1) = false := by rw [beq_eq_false_iff_ne]; omega
        simp [this]

/-! ### What is asked for -/
/-- What waits behind a line is asked for. -/
def nextS (bs : List Nat) : List Nat := match pos bs with | none => bs | some i => bs.drop (i + 2)
/-- Its text. -/
def nextT (bs : List Nat) (most : Int) : List Nat := match pos bs with | none => [] | some i => if (i : Int) > max most 0 then [] else bs.take i
/-- Is it too long? -/
def nextL (bs : List Nat) (most : Int) : Bool := match pos bs with | none => false | some i => decide ((i : Int) > max most 0)
/-- Is a line whole? -/
def nextK (bs : List Nat) : Bool := (pos bs).isSome
/-- The document's own: the text, and how many bytes are taken. -/
def lineT (bs : List Nat) : List Nat := match pos bs with | none => [] | some i => bs.take i
def lineN (bs : List Nat) : Nat := match pos bs with | none => 0 | some i => i + 2

section
variable {bs : List Nat} {i : Nat} {most : Int}
theorem nextS_none (h : pos bs = none) : nextS bs = bs := by simp [nextS, h]
theorem nextT_none (h : pos bs = none) : nextT bs most = [] := by simp [nextT, h]
theorem nextL_none (h : pos bs = none) : nextL bs most = false := by simp [nextL, h]
theorem nextK_none (h : pos bs = none) : nextK bs = false := by simp [nextK, h]
theorem lineT_none (h : pos bs = none) : lineT bs = [] := by simp [lineT, h]
theorem lineN_none (h : pos bs = none) : lineN bs = 0 := by simp [lineN, h]
theorem nextS_some (h : pos bs = some i) : nextS bs = bs.drop (i + 2) := by simp [nextS, h]
theorem nextK_some (h : pos bs = some i) : nextK bs = true := by simp [nextK, h]
theorem lineT_some (h : pos bs = some i) : lineT bs = bs.take i := by simp [lineT, h]
theorem lineN_some (h : pos bs = some i) : lineN bs = i + 2 := by simp [lineN, h]
theorem nextT_long (h : pos bs = some i) (hl : max most 0 < (i : Int)) : nextT bs most = [] := by simp [nextT, h, hl]
theorem nextL_long (h : pos bs = some i) (hl : max most 0 < (i : Int)) : nextL bs most = true := by simp [nextL, h, hl]
theorem nextT_short (h : pos bs = some i) (hl : (i : Int) ≤ max most 0) : nextT bs most = bs.take i := by
  have : ¬ ((i : Int) > max most 0) := by omega
  simp [nextT, h, this]
theorem nextL_short (h : pos bs = some i) (hl : (i : Int) ≤ max most 0) : nextL bs most = false := by
  have : ¬ ((i : Int) > max most 0) := by omega
  simp [nextL, h, this]
end

/-! ### A text without 13, and its end -/
theorem no13 {l t : List Nat} (h : ∀ c ∈ l, c ≠ 13) (j : Nat) (hj : hit (l ++ t) j = true) : l.length ≤ j := by
  rcases Nat.lt_or_ge j l.length with hlt | hge
  · simp [hit] at hj
    have h1 := hj.1
    rw [List.getElem?_append_left hlt, List.getElem?_eq_getElem hlt] at h1
    exact absurd (by simpa using h1) (h _ (List.getElem_mem hlt))
  · exact hge
theorem pos_no13 {l : List Nat} (h : ∀ c ∈ l, c ≠ 13) : pos l = none := pos_none fun j => by
  cases hj : hit l j with
  | false => rfl
  | true =>
    have h1 := no13 (t := []) h j (by simpa using hj)
    have := hit_lt hj
    omega
theorem pos_no13' {l : List Nat} (h : ∀ c ∈ l, c ≠ 13) : pos (l ++ [13]) = none := pos_none fun j => by
  cases hj : hit (l ++ [13]) j with
  | false => rfl
  | true =>
    have h1 := no13 h j hj
    have := hit_lt hj
    simp at this
    omega
theorem pos_end {l : List Nat} (h : ∀ c ∈ l, c ≠ 13) : pos (l ++ [13] ++ [10]) = some l.length := by
  refine pos_first (by simp [hit]) fun j hj => ?_
  cases hh : hit (l ++ [13] ++ [10]) j with
  | false => rfl
  | true =>
    rw [List.append_assoc] at hh
    have := no13 h j hh
    omega
/-- With its end behind it, a text has a line. -/
theorem pos_behind (l : List Nat) : ∃ i, pos (l ++ [13, 10]) = some i ∧ i ≤ l.length := by
  cases hp : pos (l ++ [13, 10]) with
  | none =>
    have := pos_none_hit hp l.length
    simp [hit] at this
  | some i =>
    have := pos_lt hp
    simp at this
    exact ⟨i, rfl, by omega⟩
end Go.Proofs.YtimoebicacnihaaGreatDoor.Ln
end

section
/-
  Words for memory: a block that is known whole; which blocks a call may have turned; a slice that reads as bytes; a slice into a row that the call itself made, an append to it, what is left of it.
-/
namespace Go.Proofs.YtimoebicacnihaaGreatDoor.Ln
open Go.RowKit
set_option linter.unusedVariables false

/-! ### What may have turned -/
/-- Of the blocks that were there only those of S may have turned. -/
structure Keep (S : Nat → Prop) (a w : World) : Prop where
  os : w.os = a.os
  tape : w.tape = a.tape
  output : w.output = a.output
  size : a.heap.size ≤ w.heap.size
  block : ∀ k, k < a.heap.size → ¬ S k → w.heap[k]? = a.heap[k]?

theorem Keep.refl (S : Nat → Prop) (w : World) : Keep S w w := ⟨rfl, rfl, rfl, Nat.le_refl _, fun _ _ _ => rfl⟩
theorem Keep.trans {S T : Nat → Prop} {a b c : World} (h : Keep S a b) (k : Keep T b c) (hT : ∀ i, i < a.heap.size → T i → S i) : Keep S a c :=
  ⟨k.os.trans h.os, k.tape.trans h.tape, k.output.trans h.output, Nat.le_trans h.size k.size,
    fun i hi hs => (k.block i (Nat.lt_of_lt_of_le hi h.size) (fun ht => hs (hT i hi ht))).trans (h.block i hi hs)⟩
theorem Keep.mono {S T : Nat → Prop} {a b : World} (h : Keep S a b) (hT : ∀ i, i < a.heap.size → S i → T i) : Keep T a b :=
  ⟨h.os, h.tape, h.output, h.size, fun i hi ht => h.block i hi (fun hs => ht (hT i hi hs))⟩
theorem Keep.drew {S : Nat → Prop} {a w : World} (h : Keep S a w) : Keep S a w.drew := ⟨h.os, h.tape, h.output, h.size, h.block⟩
theorem Keep.alloc {S : Nat → Prop} {a w : World} (h : Keep S a w) (o : Obj) : Keep S a (w.alloc o) :=
  ⟨h.os, h.tape, h.output, Nat.le_trans h.size (by simp), fun k hk hs => (Below.heap_alloc _ _ _ (Nat.lt_of_lt_of_le hk h.size)).trans (h.block k hk hs)⟩
theorem Keep.setCell {S : Nat → Prop} {a w : World} (h : Keep S a w) {p : Addr} (hp : p.block < a.heap.size → S p.block) (u : Value) : Keep S a (w.setCell p u) :=
  ⟨h.os, h.tape, h.output, by simpa [World.setCell] using h.size, fun k hk hs => (Below.heap_setCell _ _ _ _ (by rintro rfl; exact hs (hp hk))).trans (h.block k hk hs)⟩
theorem Keep.grown {S : Nat → Prop} {a w w' : World} {row : Option Nat} (h : Keep S a w) (hg : w.grownBy w' row) (hr : ∀ k, row = some k → k < a.heap.size → S k) : Keep S a w' :=
  ⟨hg.os.trans h.os, hg.tape.trans h.tape, hg.output.trans h.output, Nat.le_trans h.size hg.size,
    fun k hk hs => (hg.block k (Nat.lt_of_lt_of_le hk h.size) (fun e => hs (hr k e.symm hk))).trans (h.block k hk hs)⟩
theorem Keep.of_below {a w : World} (h : Below a.heap.size a w) : Keep (fun _ => False) a w := ⟨h.os, h.tape, h.output, h.size, fun k hk _ => h.block k hk⟩
theorem Keep.below {S : Nat → Prop} {a w : World} (h : Keep S a w) {B : Nat} (hB : B ≤ a.heap.size) (hS : ∀ k, S k → B ≤ k) : Below B a w :=
  ⟨h.os, h.tape, h.output, h.size, fun k hk => h.block k (by omega) (fun hs => by have := hS k hs; omega)⟩
theorem Keep.cell {S : Nat → Prop} {a w : World} (h : Keep S a w) {p : Addr} {v : Value} (hp : a.cell? p = some v) (hs : ¬ S p.block) : w.cell? p = some v :=
  (World.cell?_of_block (w := a) (h.block p.block (World.block_lt_of_cell? a p hp) hs)).trans hp

/-! ### A block that is known whole -/
/-- Block g is the cells cs of that type, none frozen. -/
def At (w : World) (g : Nat) (t : TypeId) (cs : Array Value) : Prop := w.heap[g]? = some (.cells cs t (0, 0))
section
variable {w w' : World} {g : Nat} {t : TypeId} {cs : Array Value}
theorem At.lt (h : At w g t cs) : g < w.heap.size := by
  rcases Nat.lt_or_ge g w.heap.size with hlt | hge
  · exact hlt
  · unfold At at h; rw [Array.getElem?_eq_none hge] at h; cases h
theorem At.cell (h : At w g t cs) (i : Nat) : w.cell? ⟨g, i, none⟩ = cs[i]? := cell_of_row w g i cs t (0, 0) h
theorem At.frozen (h : At w g t cs) (i : Nat) : w.frozen? ⟨g, i, none⟩ = false := frozen_of_row w g i cs t h
theorem At.new (w : World) (t : TypeId) (cs : Array Value) : At (w.alloc (.cells cs t)) w.heap.size t cs := heap_alloc_new w _
theorem At.drew (h : At w g t cs) : At w.drew g t cs := h
theorem At.alloc (h : At w g t cs) (o : Obj) : At (w.alloc o) g t cs := (Below.heap_alloc w o g h.lt).trans h
theorem At.put (h : At w g t cs) (i : Nat) (u : Value) : At (w.setCell ⟨g, i, none⟩ u) g t (cs.setIfInBounds i u) := by
  unfold At at h ⊢
  simp [World.setCell, Array.getElem?_modify, h]
theorem At.far (h : At w g t cs) {p : Addr} (hp : g ≠ p.block) (u : Value) : At (w.setCell p u) g t cs := (Below.heap_setCell w p u g hp).trans h
theorem At.keep {S : Nat → Prop} (h : At w g t cs) (k : Keep S w w') (hs : ¬ S g) : At w' g t cs := (k.block g h.lt hs).trans h
theorem At.ne {g' : Nat} {t' : TypeId} {cs' : Array Value} (h : At w g t cs) (h' : At w g' t' cs') (hne : t ≠ t') : g ≠ g' := by
  rintro rfl
  unfold At at h h'
  rw [h] at h'
  injection h' with h'
  injection h' with _ ht
  exact hne ht
end

/-! ### A slice that reads as bytes -/
/-- The slice that begins at 'x' has 'bs' as its bytes; it lies in a block of P. -/
def Bytes (P : Nat → Prop) (w : World) (x : Option Addr) (bs : List Nat) : Prop :=
  (∀ c ∈ bs, c < 256) ∧ (bs = [] ∨ ∃ b off, P b ∧ x = some ⟨b, off, none⟩ ∧ ∀ i, i < bs.length → w.cell? ⟨b, off + i, none⟩ = some (.int .u8 ((bs.getD i 0 : Nat) : Int)))
section
variable {w w' : World} {P : Nat → Prop} {x : Option Addr} {bs : List Nat}
theorem Bytes.nil (P : Nat → Prop) (w : World) (x : Option Addr) : Bytes P w x [] := ⟨by simp, .inl rfl⟩
theorem Bytes.keep {S : Nat → Prop} (h : Bytes P w x bs) (k : Keep S w w') (hs : ∀ b, b < w.heap.size → P b → ¬ S b) : Bytes P w' x bs := by
  refine ⟨h.1, ?_⟩
  rcases h.2 with h0 | ⟨b, off, hp, rfl, hc⟩
  · exact .inl h0
  · by_cases h0 : bs = []
    · exact .inl h0
    · refine .inr ⟨b, off, hp, rfl, fun i hi => ?_⟩
      have hlt : b < w.heap.size := World.block_lt_of_cell? w _ (hc i hi)
      exact k.cell (hc i hi) (hs b hlt hp)
theorem Bytes.mono {Q : Nat → Prop} (h : Bytes P w x bs) (hq : ∀ b, b < w.heap.size → P b → Q b) : Bytes Q w x bs := by
  refine ⟨h.1, ?_⟩
  rcases h.2 with h0 | ⟨b, off, hp, rfl, hc⟩
  · exact .inl h0
  · by_cases h0 : bs = []
    · exact .inl h0
    · have hlt : b < w.heap.size := World.block_lt_of_cell? w _ (hc 0 (List.length_pos_iff.2 h0))
      exact .inr ⟨b, off, hq b hlt hp, rfl, hc⟩
theorem Bytes.quiet (h : Bytes P w x bs) (k : Keep (fun _ => False) w w') : Bytes P w' x bs := h.keep k (fun _ _ _ h => h)
theorem Bytes.at (h : Bytes P w x bs) (i : Nat) (hi : i < bs.length) :
    ∃ b off, P b ∧ x = some ⟨b, off, none⟩ ∧ w.cell? ⟨b, off + i, none⟩ = some (.int .u8 ((bs.getD i 0 : Nat) : Int)) := by
  rcases h.2 with h0 | ⟨b, off, hp, hx, hc⟩
  · subst h0; simp at hi
  · exact ⟨b, off, hp, hx, hc i hi⟩
theorem Bytes.take (h : Bytes P w x bs) (n : Nat) : Bytes P w x (bs.take n) := by
  refine ⟨fun c hc => h.1 c (List.mem_of_mem_take hc), ?_⟩
  rcases h.2 with h0 | ⟨b, off, hp, hx, hc⟩
  · left; simp [h0]
  · right
    refine ⟨b, off, hp, hx, fun i hi => ?_⟩
    have hi' : i < n ∧ i < bs.length := by simp at hi; omega
    rw [hc i hi'.2]
    have : (bs.take n).getD i 0 = bs.getD i 0 := by simp [hi'.1]
    rw [this]
theorem getD_lt (h : ∀ c ∈ bs, c < 256) (k : Nat) (hk : k < bs.length) : bs.getD k 0 < 256 := by
  have e : bs.getD k 0 = bs[k] := by simp [hk]
  rw [e]
  exact h _ (List.getElem_mem _)
end

/-- The bytes as cells. -/
def cellsOf (bs : List Nat) : List Value := bs.map fun (c : Nat) => Value.int .u8 (c : Int)
theorem cellsOf_length (bs : List Nat) : (cellsOf bs).length = bs.length := by simp [cellsOf]
theorem cellsOf_append (a b : List Nat) : cellsOf (a ++ b) = cellsOf a ++ cellsOf b := by simp [cellsOf]
theorem cellsOf_one (bs : List Nat) : ∀ u ∈ cellsOf bs, u.oneCell' = true := by
  intro u hu
  obtain ⟨c, _, rfl⟩ := List.mem_map.1 hu
  rfl
theorem cellsOf_at (bs : List Nat) (i : Nat) (h : i < bs.length) : (cellsOf bs)[i]? = some (.int .u8 ((bs.getD i 0 : Nat) : Int)) := by simp [cellsOf, h]
theorem Bytes.news {w : World} {P : Nat → Prop} {ad : Addr} {bs : List Nat} (h : Bytes P w (some ad) bs) : ∀ j u, (cellsOf bs)[j]? = some u → w.cell? (ad.add j) = some u := by
  intro j u hu
  have hj : j < bs.length := by have := (List.getElem?_eq_some_iff.1 hu).1; rwa [cellsOf_length] at this
  obtain ⟨b, off, _, hx, hc⟩ := h.at j hj
  injection hx with hx
  subst hx
  rw [Addr.add_mid, hc, ← hu, cellsOf_at _ _ hj]
theorem Bytes.of_at {w : World} {g : Nat} {t : TypeId} {bs : List Nat} (h : At w g t (cellsOf bs).toArray) (hb : ∀ c ∈ bs, c < 256) : Bytes (· = g) w (some ⟨g, 0, none⟩) bs := by
  refine ⟨hb, .inr ⟨g, 0, rfl, rfl, fun i hi => ?_⟩⟩
  rw [h.cell (0 + i), Nat.zero_add, ← cellsOf_at bs i hi]
  simp

theorem info5 : (Tryz.prog.info? 5).map (fun i => (i.zero, i.size, i.bytes)) = some (some (.int .u8 0), 1, 1) := by kernel_rfl

/-! ### A slice into a row that the call itself made -/
/-- Where the row lies now: where it lay, or in a block that is new. -/
def New (w : World) (q q' : Option Nat) : Prop := ∀ k, q' = some k → q = some k ∨ w.heap.size ≤ k
theorem New.refl (w : World) (q : Option Nat) : New w q q := fun _ h => .inl h
theorem New.trans {a b : World} {p q r : Option Nat} (h : New a p q) (k : New b q r) (hs : a.heap.size ≤ b.heap.size) : New a p r := fun i hi => by
  rcases k i hi with h1 | h1
  · exact h i h1
  · exact .inr (by omega)
theorem New.none (w : World) (q : Option Nat) : New w q none := fun _ h => by cases h

/-- v is a slice of the bytes bs, with no room at all (q is none), or somewhere in the row of block q, which may be written, with its room. -/
def Mid (w : World) (v : Value) (q : Option Nat) (bs : List Nat) : Prop :=
  (∀ c ∈ bs, c < 256) ∧ ∃ x cap, v = .slice x bs.length cap ∧ bs.length ≤ cap ∧
    ((cap = 0 ∧ q = none) ∨ ∃ g off cur, x = some ⟨g, off, none⟩ ∧ q = some g ∧ At w g 5 cur ∧ off + cap ≤ cur.size ∧
      ∀ i, i < bs.length → cur[off + i]? = some (.int .u8 ((bs.getD i 0 : Nat) : Int)))
section
variable {w w' : World} {v : Value} {q : Option Nat} {bs : List Nat}
theorem Mid.empty (w : World) (x : Option Addr) : Mid w (.slice x 0 0) none [] := ⟨by simp, x, 0, rfl, Nat.le_refl _, .inl ⟨rfl, rfl⟩⟩
theorem Mid.lt (h : Mid w v q bs) : ∀ k, q = some k → k < w.heap.size := by
  rintro k rfl
  obtain ⟨_, x, cap, _, _, ⟨_, h0⟩ | ⟨g, off, cur, _, hq, hA, _⟩⟩ := h
  · cases h0
  · cases hq; exact hA.lt
theorem Mid.keep {S : Nat → Prop} (h : Mid w v q bs) (k : Keep S w w') (hs : ∀ b, q = some b → ¬ S b) : Mid w' v q bs := by
  obtain ⟨hb, x, cap, hv, hc, h0 | ⟨g, off, cur, hx, hq, hA, h1, h2⟩⟩ := h
  · exact ⟨hb, x, cap, hv, hc, .inl h0⟩
  · exact ⟨hb, x, cap, hv, hc, .inr ⟨g, off, cur, hx, hq, hA.keep k (hs g hq), h1, h2⟩⟩
theorem Mid.ne {g : Nat} {t : TypeId} {cs : Array Value} (h : Mid w v q bs) (hg : At w g t cs) (ht : t ≠ 5) : q ≠ some g := by
  rintro rfl
  obtain ⟨_, x, cap, _, _, ⟨_, h0⟩ | ⟨g', off, cur, _, hq, hA, _⟩⟩ := h
  · cases h0
  · cases hq; exact At.ne hg hA ht rfl
theorem Mid.shape (h : Mid w v q bs) : ∃ x cap, v = .slice x bs.length cap ∧ bs.length ≤ cap ∧ (x = none → cap = 0) ∧ Bytes (fun b => q = some b) w x bs := by
  obtain ⟨hb, x, cap, hv, hc, h0 | ⟨g, off, cur, hx, hq, hA, h1, h2⟩⟩ := h
  · have : bs = [] := List.eq_nil_of_length_eq_zero (by omega)
    subst this
    exact ⟨x, cap, hv, hc, fun _ => h0.1, Bytes.nil _ _ _⟩
  · refine ⟨x, cap, hv, hc, (fun e => by rw [hx] at e; cases e), hb, .inr ⟨g, off, hq, hx, fun i hi => ?_⟩⟩
    rw [hA.cell, h2 i hi]
/-- What is left behind n bytes. -/
theorem Mid.drop {x : Option Addr} {L C : Nat} (h : Mid w (.slice x L C) q bs) (n : Nat) (hn : n ≤ L) :
    ∃ q', Mid w (.slice (if C = n then x else x.map (fun a => a.add n)) (L - n) (C - n)) q' (bs.drop n) ∧ (q' = q ∨ q' = none) := by
  obtain ⟨hb, x', cap, hv, hc, h0⟩ := h
  injection hv with e1 e2 e3
  subst e1 e3
  have hb' : ∀ c ∈ bs.drop n, c < 256 := fun c hc => hb c (List.mem_of_mem_drop hc)
  have hl : L - n = (bs.drop n).length := by simp; omega
  by_cases hC : C = n
  · refine ⟨none, ⟨hb', _, _, by rw [hl], by rw [← hl]; omega, .inl ⟨by omega, rfl⟩⟩, .inr rfl⟩
  · rcases h0 with ⟨h0, _⟩ | ⟨g, off, cur, hx, hq, hA, h1, h2⟩
    · omega
    · refine ⟨q, ⟨hb', _, _, by rw [hl], by rw [← hl]; omega, .inr ⟨g, off + n, cur, ?_, hq, hA, by omega, fun i hi => ?_⟩⟩, .inl rfl⟩
      · rw [if_neg hC, hx]
        simp [Addr.add_mid]
      · have hi' : n + i < bs.length := by simp at hi; omega
        rw [Nat.add_assoc, h2 (n + i) hi']
        simp
theorem Mid.cap_le {x : Option Addr} {n cap : Nat} (h : Mid w (.slice x n cap) q bs) : n ≤ cap := by
  obtain ⟨_, x', cap', hv, hc, _⟩ := h
  injection hv with e1 e2 e3
  omega
theorem Mid.bytes {x : Option Addr} {n cap : Nat} (h : Mid w (.slice x n cap) q bs) : Bytes (fun b => q = some b) w x bs := by
  obtain ⟨y, c, e, _, _, hB⟩ := h.shape
  injection e with e1 e2 e3
  subst e1
  exact hB
theorem Mid.len {x : Option Addr} {n cap : Nat} (h : Mid w (.slice x n cap) q bs) : n = bs.length := by
  obtain ⟨y, c, e, _⟩ := h.shape
  injection e
theorem Mid.made (w : World) (bs : List Nat) (hb : ∀ c ∈ bs, c < 256) : Mid (w.alloc (.cells (cellsOf bs).toArray 5)) (.slice (some ⟨w.heap.size, 0, .none⟩) bs.length bs.length) (some w.heap.size) bs := by
  refine ⟨hb, _, _, rfl, Nat.le_refl _, .inr ⟨w.heap.size, 0, _, rfl, rfl, At.new w 5 _, by simp [cellsOf_length], fun i hi => ?_⟩⟩
  rw [Nat.zero_add, ← cellsOf_at bs i hi]
  simp
end

theorem At.setCells {t : TypeId} : ∀ (vs : List Value) (o : Nat) {w : World} {g : Nat} {cs : Array Value}, At w g t cs → ∃ cs', At (w.setCells g o vs) g t cs' ∧ cs'.size = cs.size
  | [], _, _, _, cs, h => ⟨cs, h, rfl⟩
  | v :: r, o, w, g, cs, h => by
    obtain ⟨cs', h1, h2⟩ := At.setCells r (o + 1) (h.put o v)
    exact ⟨cs', h1, by rw [h2]; simp⟩
theorem Keep.setCells {S : Nat → Prop} {a : World} {g : Nat} (hS : g < a.heap.size → S g) : ∀ (vs : List Value) (o : Nat) {w : World}, Keep S a w → Keep S a (w.setCells g o vs)
  | [], _, _, h => h
  | v :: r, o, w, h => Keep.setCells hS r (o + 1) (h.setCell (p := ⟨g, o, none⟩) hS v)

theorem Bytes.src {P : Nat → Prop} {w : World} {x : Option Addr} {cs : List Nat} (h : Bytes P w x cs) (c : Nat) : Src Tryz.prog 1 23 (.slice x cs.length c) cs.length (cellsOf cs) w := by
  rcases x with _ | ad
  · have hn : cs = [] := by
      rcases h.2 with h0 | ⟨b, off, _, hx, _⟩
      · exact h0
      · cases hx
    subst hn
    exact Src.ofNil w Tryz.underlying23 c
  · exact Src.ofSlice w Tryz.underlying23 ad cs.length c (cellsOf cs) (by simp [cellsOf_length]) h.news (cellsOf_one cs)

set_option maxRecDepth 100000 in
/-- An append of bytes, wherever they lie, to such a slice. -/
theorem run_append_mid (ty : TypeId) (w : World) (v : Value) (q : Option Nat) (bs : List Nat) (hM : Mid w v q bs) (P : Nat → Prop) (x : Option Addr) (m c : Nat) (cs : List Nat) (hm : cs.length = m) (h : Bytes P w x cs) (hl : bs.length + m ≤ 1099511627776) :
    ∃ y n cap q' w', (Builtin.append_ #[23, 23] ty #[v, .slice x m c]).run Tryz.prog w = .ok (.slice y n cap) w' ∧ Mid w' (.slice y n cap) q' (bs ++ cs) ∧ Keep (fun k => q = some k) w w' ∧ New w q q' := by
  obtain ⟨i0, hi, hz0, hz1, hz2⟩ := info_parts info5
  subst hm
  have hsrc : Src Tryz.prog i0.size 23 (.slice x cs.length c) cs.length (cellsOf cs) w := by rw [hz1]; exact h.src c
  have hall : ∀ c ∈ bs ++ cs, c < 256 := fun c hc => by
    rcases List.mem_append.1 hc with hc | hc
    · exact hM.1 c hc
    · exact h.1 c hc
  by_cases hm0 : cs = []
  · subst hm0
    obtain ⟨y, cap, rfl, hc, _⟩ := hM.shape
    exact ⟨y, bs.length, cap, q, w, run_append_nothing w 23 23 ty 5 i0 Tryz.underlying23 hi y bs.length cap hc _ hsrc, by simpa using hM, Keep.refl _ _, New.refl _ _⟩
  · have hpos : 0 < cs.length := List.length_pos_iff.2 hm0
    obtain ⟨y, cap, rfl, hcap, hy0, hB⟩ := hM.shape
    by_cases hroom : bs.length + cs.length ≤ cap
    · obtain ⟨hb, x', cap', hv, _, h0 | ⟨g, off, cur, hx, hq, hA, hsz, hcur⟩⟩ := hM
      · injection hv with e1 e2 e3
        omega
      · injection hv with e1 e2 e3
        subst e1 e3 hx
        have hcell : ∀ j, j < (cellsOf cs).length → (w.cell? ⟨g, off + bs.length * i0.size + j, none⟩).isSome = true := fun j hj => by
          rw [cellsOf_length] at hj
          rw [hA.cell, hz1, Array.getElem?_eq_getElem (by omega)]
          rfl
        have hr := run_append_room_src w 23 23 ty 5 i0 Tryz.underlying23 hi g off bs.length cap (.slice x cs.length c) cs.length (cellsOf cs) hsrc hroom hcell (fun j _ => hA.frozen _)
        obtain ⟨cs', hA', hsz'⟩ := hA.setCells (cellsOf cs) (off + bs.length * i0.size)
        rw [hz1, Nat.mul_one] at hr hcell hA'
        refine ⟨_, _, _, q, _, hr, ⟨hall, _, _, by rw [List.length_append], by rw [List.length_append]; exact hroom, .inr ⟨g, off, cs', rfl, hq, hA', by omega, fun i hi => ?_⟩⟩, Keep.setCells (fun _ => hq) _ _ (Keep.refl _ _), New.refl _ _⟩
        rw [← hA'.cell]
        by_cases hlt : i < bs.length
        · rw [World.cell?_setCells_out _ _ _ _ _ (fun _ _ => .inl (by simp; omega)), hA.cell, hcur i hlt]
          have e : (bs ++ cs).getD i 0 = bs.getD i 0 := by simp [List.getElem?_append_left hlt]
          rw [e]
        · obtain ⟨j, rfl⟩ : ∃ j, i = bs.length + j := ⟨i - bs.length, by omega⟩
          have hj : j < cs.length := by rw [List.length_append] at hi; omega
          rw [← Nat.add_assoc, World.cell?_setCells_in _ _ _ _ hcell j (by rw [cellsOf_length]; exact hj)]
          have e := cellsOf_at cs j hj
          rw [List.getElem?_eq_getElem (by rw [cellsOf_length]; exact hj)] at e
          rw [e]
          simp [hj]
    · have hold : (Builtin.firstCells i0.size bs.length (.slice y bs.length cap)).run Tryz.prog w.drew = .ok (cellsOf bs).toArray w.drew := by
        have := (hB.src cap).cellsD
        rw [hz1]
        exact this
      have hr := run_append_grow_src w 23 23 ty 5 i0 _ Tryz.underlying23 hi hz0 y bs.length cap (cellsOf bs) hold (.slice x cs.length c) cs.length (cellsOf cs) hsrc (by omega) (by omega) (growslice_fits (by omega) (by rw [hz2]; omega))
      refine ⟨_, _, _, some w.heap.size, _, hr, ⟨hall, _, _, by rw [List.length_append], by rw [List.length_append]; exact grownCap_ge _ _ _ _, .inr ⟨w.heap.size, 0, _, rfl, rfl, At.new w.drew 5 _, ?_, fun i hi => ?_⟩⟩, (Keep.refl _ w).drew.alloc _, fun k hk => .inr (by cases hk; exact Nat.le_refl _)⟩
      · have := grownCap_ge w (bs.length + cs.length) cap 5
        simp only [Array.size_append, List.size_toArray, List.length_append, cellsOf_length, size_zeroCells]
        simp [Value.cells]
        omega
      · have e := cellsOf_at (bs ++ cs) i hi
        rw [cellsOf_append] at e
        rw [← e, Nat.zero_add, Array.getElem?_append_left (by simp [cellsOf_length]; rw [List.length_append] at hi; exact hi)]
        simp

/-- The same at the list of a region's operations. -/
theorem wpList_append_mid {w : World} {ops : Array Oper} {rest : List Oper} {o : Oper} {a : Act} {Q : Exit → Act → World → Prop} (hgd : o.guard = none) (s t : Operand)
    (ho : o.op = .call { callee := .builtin .append, args := #[s, t], argTypes := #[23, 23] })
    (v : Value) (q : Option Nat) (bs : List Nat) (hs : a.eval s = v) (hM : Mid w v q bs) (P : Nat → Prop) (x : Option Addr) (m c : Nat) (cs : List Nat) (hx : a.eval t = .slice x m c) (hm : cs.length = m) (h : Bytes P w x cs) (hl : bs.length + m ≤ 1099511627776)
    (hK : ∀ y n cap q' w', Mid w' (.slice y n cap) q' (bs ++ cs) → Keep (fun k => q = some k) w w' → New w q q' → wpList Tryz.prog ops Q rest (a.put o.dst (.slice y n cap)) w') :
    wpList Tryz.prog ops Q (o :: rest) a w := by
  refine wpList_plain hgd fun K hK' => ?_
  obtain ⟨y, n, cap, q', w', hr, h2, h3, h4⟩ := run_append_mid o.type w v q bs hM P x m c cs hm h hl
  unfold Oper.wp execOp
  simp only [ho, resolve, invoke, builtin, Sem.run_bind, Sem.run_pure, Result.andThen_ok, List.map_toArray, List.map_cons, List.map_nil, hs, hx, hr]
  exact hK' _ _ (hK y n cap q' w' h2 h3 h4)

/-! ### Bytes as a string -/
def str (bs : List Nat) : ByteArray := strOfNums (bs.map fun (c : Nat) => (c : Int))
theorem run_str {w : World} {P : Nat → Prop} {x : Option Addr} {bs : List Nat} (h : Bytes P w x bs) (n cap : Nat) (hn : bs.length = n) : (convert 23 9 (.slice x n cap)).run Tryz.prog w = .ok (.string (str bs)) w := by
  subst hn
  rcases h.2 with h0 | ⟨b, off, _, rfl, hc⟩
  · subst h0
    rcases x with _ | ad
    · have := run_convert_bytes_nil (P := Tryz.prog) w 23 5 Tryz.underlying23 Tryz.underlying5 0 cap 9 Tryz.underlying9
      exact this
    · rw [run_convert_bytes_string w 23 9 5 _ _ _ Tryz.underlying23 Tryz.underlying5 Tryz.underlying9, run_bytesToString w ad _ cap [] (by simp [loadCells, loadCellsFrom])]
      rfl
  · have := run_convert_bytes_arg (P := Tryz.prog) w 23 5 Tryz.underlying23 Tryz.underlying5 b off bs.length cap (bs.map fun (c : Nat) => (c : Int)) (by simp) (fun i hi => by rw [hc i hi]; simp [hi]) 9 Tryz.underlying9
    exact this

/-! ### Cuts; bytes that came in -/
theorem cut_pre (x : Option Addr) (L C n : Nat) (hn : n ≤ C) :
    (∀ w, (Instr.slice 23 (.slice x L C) none (some (.int .i64 (n : Int))) none).run Tryz.prog w = .ok (.slice x n C) w) ∧
    (∀ w, (Instr.sliceAt 23 (.slice x L C) none (some (.int .i64 (n : Int))) none).run Tryz.prog w = .ok (.slice x n C) w) := by
  obtain ⟨i0, hi, hz0, hz1, hz2⟩ := info_parts info5
  have h1 : (n : Int) ≤ (C : Int) := by omega
  have r : ∀ w, (Instr.slice 23 (.slice x L C) none (some (.int .i64 (n : Int))) none).run Tryz.prog w = .ok (.slice x n C) w := by
    intro w
    have hb : ∀ code, (Instr.sliceBound (.int .i64 (n : Int)) C code).run Tryz.prog w = .ok n w := by
      intro code; simp [Instr.sliceBound, asIntOf, h1]
    have e : (if C = 0 then x else x.map (fun a => a.add 0)) = x := by
      rcases x with _ | a <;> simp [Addr.add]
    simp [Instr.slice, run_underlying Tryz.underlying23, Instr.sliceBounds, hb, sizeOf, typeInfo, hi]
    simpa using e
  refine ⟨r, fun w => ?_⟩
  rw [← r w]
  simp [Instr.sliceAt, run_underlying Tryz.underlying23]
theorem bytes_of {w : World} {a : Option Addr} {len cap : Nat} {zs : List Int}
    (h : (a = none ∧ len = 0 ∧ cap = 0 ∧ zs = []) ∨
      ∃ x, a = some x ∧ len ≤ cap ∧ cap ≤ maxLen ∧ zs.length = cap ∧ (∀ i, i < zs.length → w.cell? (x.add i) = some (.int .u8 (zs.getD i 0))) ∧ ∀ n ∈ zs, (Lit.int .u8 n).wf = true) :
    ∃ bs : List Nat, bs.length = len ∧ len ≤ cap ∧ cap ≤ maxLen ∧ Bytes (fun b => b < w.heap.size) w a bs := by
  rcases h with ⟨rfl, rfl, rfl, rfl⟩ | ⟨x, rfl, hl, hm, hz, hcell, hwz⟩
  · exact ⟨[], rfl, Nat.le_refl _, Nat.zero_le _, Bytes.nil _ _ _⟩
  · refine ⟨(zs.take len).map Int.toNat, by simp; omega, hl, hm, ?_, ?_⟩
    · intro c hc
      obtain ⟨z, hz1, rfl⟩ := List.mem_map.1 hc
      have := bounds_u8 (hwz z (List.mem_of_mem_take hz1))
      omega
    · by_cases h0 : len = 0
      · left; simp [h0]
      · right
        obtain ⟨b, off, spot⟩ := x
        have hc0 := hcell 0 (by omega)
        have hspot : spot = none := by simpa [Addr.add] using World.cell?_spot hc0
        subst hspot
        refine ⟨b, off, ?_, rfl, fun i hi => ?_⟩
        · have := World.block_lt_of_cell? w _ hc0
          simpa [Addr.add] using this
        · have hi' : i < len := by simpa [hz, Nat.min_eq_left hl] using hi
          have hc := hcell i (by omega)
          rw [Addr.add_mid] at hc
          rw [hc]
          have hiz : i < zs.length := by omega
          have hw := bounds_u8 (hwz zs[i] (List.getElem_mem _))
          have e1 : zs.getD i 0 = zs[i] := by simp [hiz]
          have e2 : ((zs.take len).map Int.toNat).getD i 0 = zs[i].toNat := by simp [hiz, hi']
          rw [e1, e2]
          congr 2
          omega
theorem cut_drop (x : Option Addr) (L C n : Nat) (hn : n ≤ L) (hL : L ≤ C) :
    (∀ w, (Instr.slice 23 (.slice x L C) (some (.int .i64 (n : Int))) none none).run Tryz.prog w = .ok (.slice (if C = n then x else x.map (fun a => a.add n)) (L - n) (C - n)) w) ∧
    (∀ w, (Instr.sliceAt 23 (.slice x L C) (some (.int .i64 (n : Int))) none none).run Tryz.prog w = .ok (.slice (if C = n then x else x.map (fun a => a.add n)) (L - n) (C - n)) w) := by
  obtain ⟨i0, hi, hz0, hz1, hz2⟩ := info_parts info5
  have h1 : (n : Int) ≤ (L : Int) := by omega
  have r : ∀ w, (Instr.slice 23 (.slice x L C) (some (.int .i64 (n : Int))) none none).run Tryz.prog w = .ok (.slice (if C = n then x else x.map (fun a => a.add n)) (L - n) (C - n)) w := by
    intro w
    have hb : ∀ code, (Instr.sliceBound (.int .i64 (n : Int)) L code).run Tryz.prog w = .ok n w := by
      intro code; simp [Instr.sliceBound, asIntOf, h1]
    simp [Instr.slice, run_underlying Tryz.underlying23, Instr.sliceBounds, hb, sizeOf, typeInfo, hi, hz1]
  refine ⟨r, fun w => ?_⟩
  rw [← r w]
  simp [Instr.sliceAt, run_underlying Tryz.underlying23]
/-- A slice cut in its middle. -/
theorem cut_mid (x : Option Addr) (L C l h : Nat) (hlh : l ≤ h) (hh : h ≤ C) :
    (∀ w, (Instr.slice 23 (.slice x L C) (some (.int .i64 (l : Int))) (some (.int .i64 (h : Int))) none).run Tryz.prog w = .ok (.slice (if C = l then x else x.map (fun a => a.add l)) (h - l) (C - l)) w) ∧
    (∀ w, (Instr.sliceAt 23 (.slice x L C) (some (.int .i64 (l : Int))) (some (.int .i64 (h : Int))) none).run Tryz.prog w = .ok (.slice (if C = l then x else x.map (fun a => a.add l)) (h - l) (C - l)) w) := by
  obtain ⟨i0, hi, hz0, hz1, hz2⟩ := info_parts info5
  have h1 : (h : Int) ≤ (C : Int) := by omega
  have h2 : (l : Int) ≤ (h : Int) := by omega
  have r : ∀ w, (Instr.slice 23 (.slice x L C) (some (.int .i64 (l : Int))) (some (.int .i64 (h : Int))) none).run Tryz.prog w = .ok (.slice (if C = l then x else x.map (fun a => a.add l)) (h - l) (C - l)) w := by
    intro w
    have hb : ∀ code, (Instr.sliceBound (.int .i64 (h : Int)) C code).run Tryz.prog w = .ok h w := by
      intro code; simp [Instr.sliceBound, asIntOf, h1]
    have hc : ∀ code, (Instr.sliceBound (.int .i64 (l : Int)) h code).run Tryz.prog w = .ok l w := by
      intro code; simp [Instr.sliceBound, asIntOf, h2]
    simp [Instr.slice, run_underlying Tryz.underlying23, Instr.sliceBounds, hb, hc, sizeOf, typeInfo, hi, hz1]
  refine ⟨r, fun w => ?_⟩
  rw [← r w]
  simp [Instr.sliceAt, run_underlying Tryz.underlying23]
theorem Bytes.mid {P : Nat → Prop} {w : World} {x : Option Addr} {bs : List Nat} (hB : Bytes P w x bs) (C l h : Nat) (hlh : l ≤ h) (hh : h ≤ bs.length) (hC : bs.length ≤ C) :
    Bytes P w (if C = l then x else x.map (fun a => a.add l)) ((bs.take h).drop l) := by
  refine ⟨fun c hc => hB.1 c (List.mem_of_mem_take (List.mem_of_mem_drop hc)), ?_⟩
  by_cases h0 : l = h
  · left; subst h0; simp
  · rcases hB.2 with h2 | ⟨b, off, hp, rfl, hc⟩
    · subst h2; left; simp
    · right
      rw [if_neg (by omega)]
      refine ⟨b, off + l, hp, by simp [Addr.add_mid], fun i hi => ?_⟩
      have hi' : l + i < h := by simp at hi; omega
      rw [Nat.add_assoc, hc (l + i) (by omega)]
      have e : ((bs.take h).drop l).getD i 0 = bs.getD (l + i) 0 := by simp [hi']
      rw [e]

end Go.Proofs.YtimoebicacnihaaGreatDoor.Ln
end

section
/-
  Bodies as plain lists: the texts of one, what it is sent as, and what a line that came is.
-/
namespace Go.Proofs.YtimoebicacnihaaGreatDoor.Ln
set_option linter.unusedVariables false

/-- Neither 10 nor 13. -/
def clean (l : List Nat) : Prop := ∀ c ∈ l, c ≠ 10 ∧ c ≠ 13
/-- Texts, each with 10 behind. -/
def joinL : List (List Nat) → List Nat
  | [] => []
  | l :: L => l ++ 10 :: joinL L
/-- bs is a body, of these texts. -/
def Body (L : List (List Nat)) (bs : List Nat) : Prop := (∀ l ∈ L, clean l) ∧ bs = joinL L

theorem joinL_append (A B : List (List Nat)) : joinL (A ++ B) = joinL A ++ joinL B := by
  induction A with
  | nil => rfl
  | cons l A ih => simp [joinL, ih]
theorem joinL_one (l : List Nat) : joinL [l] = l ++ [10] := rfl
theorem joinL_snoc (A : List (List Nat)) (l : List Nat) : joinL (A ++ [l]) = joinL A ++ l ++ [10] := by simp [joinL_append, joinL]
theorem joinL_nil {L : List (List Nat)} (h : joinL L = []) : L = [] := by
  cases L with
  | nil => rfl
  | cons l L => simp [joinL] at h

/-- Two cuts at the first 10 are one. -/
theorem cut10 : ∀ {d l X Y : List Nat}, (∀ c ∈ d, c ≠ 10) → (∀ c ∈ l, c ≠ 10) → d ++ 10 :: X = l ++ 10 :: Y → d = l ∧ X = Y
  | [], [], X, Y, _, _, h => ⟨rfl, by simpa using h⟩
  | [], c :: l, X, Y, _, hl, h => by
    have : 10 = c := by simp at h; exact h.1
    exact absurd this.symm (hl c (by simp))
  | c :: d, [], X, Y, hd, _, h => by
    have : c = 10 := by simp at h; exact h.1
    exact absurd this (hd c (by simp))
  | c :: d, e :: l, X, Y, hd, hl, h => by
    simp at h
    obtain ⟨h1, h2⟩ := cut10 (d := d) (l := l) (fun x hx => hd x (by simp [hx])) (fun x hx => hl x (by simp [hx])) h.2
    exact ⟨by rw [h.1, h1], h2⟩
/-- A body that begins with these texts has more behind. -/
theorem body_front : ∀ {D L : List (List Nat)} {R : List Nat}, (∀ l ∈ D, clean l) → (∀ l ∈ L, clean l) → joinL D ++ R = joinL L → ∃ L', L = D ++ L' ∧ R = joinL L'
  | [], L, R, _, _, h => ⟨L, rfl, by simpa [joinL] using h⟩
  | d :: D, [], R, _, _, h => by simp [joinL] at h
  | d :: D, l :: L, R, hD, hL, h => by
    simp only [joinL, List.append_assoc, List.cons_append] at h
    obtain ⟨rfl, h2⟩ := cut10 (fun c hc => (hD d (by simp) c hc).1) (fun c hc => (hL l (by simp) c hc).1) h
    obtain ⟨L', e, hR⟩ := body_front (D := D) (L := L) (fun x hx => hD x (by simp [hx])) (fun x hx => hL x (by simp [hx])) h2
    exact ⟨L', by rw [e]; rfl, hR⟩
theorem body_same {A B : List (List Nat)} {bs : List Nat} (h : Body A bs) (k : Body B bs) : A = B := by
  obtain ⟨L', e, hR⟩ := body_front (D := A) (L := B) (R := []) h.1 k.1 (by rw [List.append_nil, ← h.2, ← k.2])
  rw [e, joinL_nil hR.symm, List.append_nil]

/-- Its texts, cut at each 10. -/
def linesOf : List Nat → List (List Nat)
  | [] => []
  | c :: t => if c = 10 then [] :: linesOf t else match linesOf t with
    | [] => [[c]]
    | l :: L => (c :: l) :: L
/-- Is it a body? -/
def bodyB (bs : List Nat) : Bool := bs.all (fun c => c != 13) && (bs.getLast? == none || bs.getLast? == some 10)

theorem linesOf_mem : ∀ {bs : List Nat} {l : List Nat}, l ∈ linesOf bs → ∀ c ∈ l, c ≠ 10 ∧ c ∈ bs
  | [], l, h, c, hc => by simp [linesOf] at h
  | b :: t, l, h, c, hc => by
    unfold linesOf at h
    split at h
    · rcases List.mem_cons.1 h with rfl | h
      · simp at hc
      · have := linesOf_mem h c hc
        exact ⟨this.1, List.mem_cons_of_mem _ this.2⟩
    · rename_i hb
      split at h
      · obtain rfl : l = [b] := by simpa using h
        obtain rfl : c = b := by simpa using hc
        exact ⟨hb, by simp⟩
      · rename_i l0 L0 e
        rcases List.mem_cons.1 h with rfl | h
        · rcases List.mem_cons.1 hc with rfl | hc
          · exact ⟨hb, by simp⟩
          · have := linesOf_mem (bs := t) (l := l0) (by rw [e]; simp) c hc
            exact ⟨this.1, List.mem_cons_of_mem _ this.2⟩
        · have := linesOf_mem (bs := t) (l := l) (by rw [e]; simp [h]) c hc
          exact ⟨this.1, List.mem_cons_of_mem _ this.2⟩
theorem linesOf_join : ∀ {bs : List Nat}, (bs = [] ∨ bs.getLast? = some 10) → joinL (linesOf bs) = bs
  | [], _ => rfl
  | c :: t, h => by
    have hl : (c :: t).getLast? = some 10 := by
      rcases h with h | h
      · cases h
      · exact h
    have ht : t = [] ∨ t.getLast? = some 10 := by
      cases t with
      | nil => exact .inl rfl
      | cons d t => right; simpa using hl
    have ih := linesOf_join ht
    unfold linesOf
    split
    · rename_i hc
      subst hc
      simp [joinL, ih]
    · rename_i hc
      split
      · rename_i e
        rw [e] at ih
        have : t = [] := ih.symm
        subst this
        simp at hl
        exact absurd hl hc
      · rename_i l L e
        rw [e] at ih
        simp only [joinL, List.cons_append] at ih ⊢
        rw [ih]
theorem bodyB_body {bs : List Nat} (h : bodyB bs = true) : Body (linesOf bs) bs := by
  simp only [bodyB, Bool.and_eq_true, Bool.or_eq_true, beq_iff_eq, List.all_eq_true, bne_iff_ne] at h
  refine ⟨fun l hl c hc => ⟨(linesOf_mem hl c hc).1, h.1 c (linesOf_mem hl c hc).2⟩, (linesOf_join ?_).symm⟩
  rcases h.2 with h2 | h2
  · exact .inl (List.getLast?_eq_none_iff.1 h2)
  · exact .inr h2
theorem joinL_last : ∀ {L : List (List Nat)}, L ≠ [] → (joinL L).getLast? = some 10
  | [], h => absurd rfl h
  | [l], _ => by simp [joinL]
  | l :: m :: L, _ => by
    have ih := joinL_last (L := m :: L) (by simp)
    have hne : joinL (m :: L) ≠ [] := by simp [joinL]
    rw [joinL, List.getLast?_append]
    rw [List.getLast?_cons]
    simp [ih]
theorem joinL_clean : ∀ {L : List (List Nat)}, (∀ l ∈ L, clean l) → ∀ c ∈ joinL L, c ≠ 13
  | [], _, c, hc => by simp [joinL] at hc
  | l :: L, h, c, hc => by
    simp only [joinL, List.mem_append, List.mem_cons] at hc
    rcases hc with hc | rfl | hc
    · exact (h l (by simp) c hc).2
    · decide
    · exact joinL_clean (fun x hx => h x (by simp [hx])) c hc
theorem body_bodyB {L : List (List Nat)} {bs : List Nat} (h : Body L bs) : bodyB bs = true := by
  simp only [bodyB, Bool.and_eq_true, Bool.or_eq_true, beq_iff_eq, List.all_eq_true, bne_iff_ne]
  rw [h.2]
  refine ⟨joinL_clean h.1, ?_⟩
  by_cases hL : L = []
  · left; subst hL; rfl
  · exact .inr (joinL_last hL)
theorem body_lines {L : List (List Nat)} {bs : List Nat} (h : Body L bs) : linesOf bs = L := body_same (bodyB_body (body_bodyB h)) h
/-- What is no body: what comes next has no 10, or a 13 ahead of it. -/
theorem bodyB_false {D : List (List Nat)} {R bs : List Nat} (hD : ∀ l ∈ D, clean l) (e : bs = joinL D ++ R) (h : (R ≠ [] ∧ ∀ c ∈ R, c ≠ 10) ∨ ∃ t X, R = t ++ 10 :: X ∧ (∀ c ∈ t, c ≠ 10) ∧ 13 ∈ t) : bodyB bs = false := by
  cases hb : bodyB bs with
  | false => rfl
  | true =>
    obtain ⟨hL, e2⟩ := bodyB_body hb
    obtain ⟨L', _, hR⟩ := body_front hD hL (e.symm.trans e2)
    have hL' : ∀ l ∈ L', clean l := fun l hl => hL l (by rename_i e3; rw [e3]; simp [hl])
    rcases h with ⟨h1, h2⟩ | ⟨t, X, rfl, h2, h3⟩
    · cases L' with
      | nil => exact absurd hR h1
      | cons l L' => exact absurd rfl (h2 10 (by rw [hR]; simp [joinL]))
    · cases L' with
      | nil => simp [joinL] at hR
      | cons l L' =>
        obtain ⟨rfl, _⟩ := cut10 h2 (fun c hc => (hL' l (by simp) c hc).1) hR
        exact absurd rfl (hL' t (by simp) 13 h3).2
theorem body_snoc {D : List (List Nat)} {t : List Nat} (hD : ∀ l ∈ D, clean l) (ht : clean t) : ∀ l ∈ D ++ [t], clean l := fun l hl => by
  rcases List.mem_append.1 hl with h | h
  · exact hD l h
  · obtain rfl : l = t := by simpa using h
    exact ht
theorem body_append {A B : List (List Nat)} {a b : List Nat} (h : Body A a) (k : Body B b) : Body (A ++ B) (a ++ b) := by
  refine ⟨fun l hl => ?_, by rw [joinL_append, h.2, k.2]⟩
  rcases List.mem_append.1 hl with h1 | h1
  · exact h.1 l h1
  · exact k.1 l h1
theorem joinL_count : ∀ (L : List (List Nat)), L.length ≤ (joinL L).length
  | [] => Nat.le_refl _
  | l :: L => by
    have := joinL_count L
    simp [joinL]
    omega

/-! ### What it is sent as -/
/-- A text, with a point more if it begins with one. -/
def stuffT (l : List Nat) : List Nat := if l.head? = some 46 then 46 :: l else l
def stuffs : List (List Nat) → List Nat
  | [] => []
  | l :: L => stuffT l ++ 13 :: 10 :: stuffs L
def stuffM (L : List (List Nat)) : List Nat := stuffs L ++ [46, 13, 10]
theorem stuffs_append (A B : List (List Nat)) : stuffs (A ++ B) = stuffs A ++ stuffs B := by
  induction A with
  | nil => rfl
  | cons l A ih => simp [stuffs, ih]
theorem stuffs_snoc (A : List (List Nat)) (l : List Nat) : stuffs (A ++ [l]) = stuffs A ++ stuffT l ++ [13, 10] := by simp [stuffs_append, stuffs]
theorem stuffs_count : ∀ (L : List (List Nat)), (stuffs L).length ≤ 3 * (joinL L).length
  | [] => Nat.le_refl _
  | l :: L => by
    have := stuffs_count L
    simp only [stuffs, joinL, List.length_append, List.length_cons, stuffT]
    split <;> rename_i h
    · cases l with
      | nil => simp at h
      | cons c l => simp; omega
    · omega
theorem stuffT_lt {l : List Nat} (h : ∀ c ∈ l, c < 256) : ∀ c ∈ stuffT l, c < 256 := fun c hc => by
  unfold stuffT at hc
  split at hc
  · rcases List.mem_cons.1 hc with rfl | hc
    · decide
    · exact h c hc
  · exact h c hc
theorem joinL_lt : ∀ {L : List (List Nat)}, (∀ c ∈ joinL L, c < 256) → ∀ l ∈ L, ∀ c ∈ l, c < 256
  | [], _, l, hl => by simp at hl
  | m :: L, h, l, hl => by
    rcases List.mem_cons.1 hl with rfl | hl
    · exact fun c hc => h c (by simp [joinL, hc])
    · exact joinL_lt (fun c hc => h c (by simp [joinL, hc])) l hl
theorem stuffs_lt : ∀ {L : List (List Nat)}, (∀ l ∈ L, ∀ c ∈ l, c < 256) → ∀ c ∈ stuffs L, c < 256
  | [], _, c, hc => by simp [stuffs] at hc
  | l :: L, h, c, hc => by
    simp only [stuffs, List.mem_append, List.mem_cons] at hc
    rcases hc with hc | rfl | rfl | hc
    · exact stuffT_lt (h l (by simp)) c hc
    · decide
    · decide
    · exact stuffs_lt (fun x hx => h x (by simp [hx])) c hc
theorem stuffM_lt {L : List (List Nat)} (h : ∀ l ∈ L, ∀ c ∈ l, c < 256) : ∀ c ∈ stuffM L, c < 256 := fun c hc => by
  rcases List.mem_append.1 hc with hc | hc
  · exact stuffs_lt h c hc
  · simp at hc; omega

/-! ### What a line that came is -/
def unE (l : List Nat) : Bool := l == [46]
def unT (l : List Nat) : List Nat := if l = [46] then [] else if l.head? = some 46 then l.drop 1 else l
theorem un_stuff {l : List Nat} : unE (stuffT l) = false ∧ unT (stuffT l) = l := by
  unfold stuffT
  split
  · rename_i h
    cases l with
    | nil => simp at h
    | cons c l => exact ⟨by simp [unE], by simp [unT]⟩
  · rename_i h
    have hne : l ≠ [46] := by rintro rfl; exact h rfl
    exact ⟨by simp [unE, hne], by simp [unT, hne, h]⟩
theorem stuffT_no13 {l : List Nat} (h : ∀ c ∈ l, c ≠ 13) : ∀ c ∈ stuffT l, c ≠ 13 := fun c hc => by
  unfold stuffT at hc
  split at hc
  · rcases List.mem_cons.1 hc with rfl | hc
    · decide
    · exact h c hc
  · exact h c hc
theorem pos_at {l R : List Nat} (h : ∀ c ∈ l, c ≠ 13) : pos (l ++ 13 :: 10 :: R) = some l.length := by
  refine pos_first (by simp [hit]) fun j hj => ?_
  cases hh : hit (l ++ 13 :: 10 :: R) j with
  | false => rfl
  | true =>
    have := no13 h j hh
    omega
theorem stuffM_nil : pos (stuffM []) = some 1 ∧ (stuffM []).take 1 = [46] ∧ (stuffM []).drop 3 = [] := by decide
theorem stuffM_cons {l : List Nat} {L : List (List Nat)} (h : ∀ c ∈ l, c ≠ 13) :
    pos (stuffM (l :: L)) = some (stuffT l).length ∧ (stuffM (l :: L)).take (stuffT l).length = stuffT l ∧ (stuffM (l :: L)).drop ((stuffT l).length + 2) = stuffM L := by
  have e : stuffM (l :: L) = stuffT l ++ 13 :: 10 :: stuffM L := by simp [stuffM, stuffs]
  rw [e]
  refine ⟨pos_at (stuffT_no13 h), by simp, ?_⟩
  rw [← List.drop_drop, List.drop_left]
  rfl
end Go.Proofs.YtimoebicacnihaaGreatDoor.Ln
end

section
/-
  Strings as lists of bytes; back and forth.
-/
namespace Go.Proofs.YtimoebicacnihaaGreatDoor.Ln
open Go.RowKit
set_option linter.unusedVariables false
set_option linter.unusedSimpArgs false

/-! ### Strings as lists -/
def ns (A : ByteArray) : List Nat := A.data.toList.map UInt8.toNat
theorem ns_length (A : ByteArray) : (ns A).length = A.size := by simp [ns]
theorem ns_lt (A : ByteArray) : ∀ c ∈ ns A, c < 256 := fun c hc => by
  obtain ⟨u, _, rfl⟩ := List.mem_map.1 hc
  exact u.toNat_lt
theorem str_ns (A : ByteArray) : str (ns A) = A := by
  apply ByteArray.ext
  apply Array.ext'
  simp [str, strOfNums, ns, Function.comp_def]
theorem ns_str {l : List Nat} (h : ∀ c ∈ l, c < 256) : ns (str l) = l := by
  simp only [ns, str, strOfNums, List.map_map]
  conv => rhs; rw [← List.map_id l]
  refine List.map_congr_left fun c hc => ?_
  have := h c hc
  simp
  omega
theorem str_size (bs : List Nat) : (str bs).size = bs.length := by simp [str, strOfNums_size]
theorem str_append (a b : List Nat) : str a ++ str b = str (a ++ b) := by
  apply ByteArray.ext
  apply Array.ext'
  simp [str, strOfNums]
theorem str_inj {a b : List Nat} (ha : ∀ c ∈ a, c < 256) (hb : ∀ c ∈ b, c < 256) (h : str a = str b) : a = b := by
  rw [← ns_str ha, ← ns_str hb, h]
theorem str_eta (l : List Nat) : (⟨(str l).data.toList.toArray⟩ : ByteArray) = str l := by simp
theorem ns_inj {a b : ByteArray} (h : ns a = ns b) : a = b := by rw [← str_ns a, ← str_ns b, h]
theorem ns_point : ns { data := #[46] } = [46] := rfl
theorem ns_data (s : ByteArray) : ns s = s.data.toList.map UInt8.toNat := rfl
theorem list_ne {s : ByteArray} (h : s ≠ { data := #[46] }) : (s.toList == [46]) = false := by
  rw [beq_eq_false_iff_ne]
  intro e
  apply h
  apply ByteArray.ext
  apply Array.ext'
  rw [← Lib.toList_data]
  exact e
theorem head_ns (s : ByteArray) (h : 0 < s.size) : (ns s).head? = some (s[0]'h).toNat := by
  have hd : 0 < s.data.size := h
  rw [List.head?_eq_getElem?]
  simp [ns, ByteArray.getElem_eq_getElem_data, Array.getElem?_eq_getElem hd]
theorem drop_ns (s : ByteArray) : s.extract 1 s.size = str ((ns s).drop 1) := by
  apply ns_inj
  rw [ns_str (fun c hc => ns_lt s c (List.mem_of_mem_drop hc))]
  have : s.size = s.data.toList.length := by simp
  simp only [ns, ByteArray.data_extract, Array.toList_extract, List.extract_eq_take_drop, ← List.map_drop]
  rw [List.take_of_length_le (by simp)]
theorem un_end : unE [46] = true ∧ unT [46] = [] := by decide
theorem unE_ne {s : ByteArray} (h : s ≠ { data := #[46] }) : unE (ns s) = false := by
  have hne : ns s ≠ [46] := fun e => h (ns_inj (e.trans ns_point.symm))
  simp [unE, hne]

end Go.Proofs.YtimoebicacnihaaGreatDoor.Ln
end
