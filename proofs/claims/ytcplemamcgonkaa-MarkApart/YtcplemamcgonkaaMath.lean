/-
  Lines of bytes, as plain lists: where the first end (13, then 10) stands; what is asked for, and what is left.
-/
import Derived.Lib.IndexLaws
import Derived.Lib.Bytes
namespace Go.Proofs.Ytcplemamcgonkaa.Ln
set_option linter.unusedVariables false

/-- An end begins at place i. -/
def hit (bs : List Nat) (i : Nat) : Bool := bs[i]? == some 13 && bs[i + 1]? == some 10
/-- Where the first end begins. -/
def pos : List Nat → Option Nat
  | [] => none
  | c :: t => if hit (c :: t) 0 then some 0 else (pos t).map (· + 1)

theorem hit_succ (c : Nat) (t : List Nat) (i : Nat) : hit (c :: t) (i + 1) = hit t i := by simp [hit]
theorem hit_nil (i : Nat) : hit [] i = false := by simp [hit]

theorem pos_first : ∀ {bs : List Nat} {i : Nat}, hit bs i = true → (∀ j, j < i → hit bs j = false) → pos bs = some i
  | [], i, h, _ => by rw [hit_nil] at h; cases h
  | c :: t, 0, h, _ => by simp [pos, h]
  | c :: t, i + 1, h, hn => by
    have h0 := hn 0 (Nat.succ_pos _)
    rw [hit_succ] at h
    have ih := pos_first h (fun j hj => by have := hn (j + 1) (by omega); rwa [hit_succ] at this)
    simp [pos, h0, ih]
theorem pos_none : ∀ {bs : List Nat}, (∀ j, hit bs j = false) → pos bs = none
  | [], _ => rfl
  | c :: t, h => by
    have h0 := h 0
    have ih := pos_none (bs := t) (fun j => by have := h (j + 1); rwa [hit_succ] at this)
    simp [pos, h0, ih]
theorem pos_some_hit : ∀ {bs : List Nat} {i : Nat}, pos bs = some i → hit bs i = true ∧ ∀ j, j < i → hit bs j = false
  | [], i, h => by simp [pos] at h
  | c :: t, i, h => by
    unfold pos at h
    split at h
    · rename_i h0
      obtain rfl : 0 = i := by simpa using h
      exact ⟨h0, fun j hj => absurd hj (Nat.not_lt_zero _)⟩
    · rename_i h0
      cases hp : pos t with
      | none => rw [hp] at h; cases h
      | some k =>
        rw [hp] at h
        obtain rfl : k + 1 = i := by simpa using h
        obtain ⟨h1, h2⟩ := pos_some_hit hp
        refine ⟨by rw [hit_succ]; exact h1, fun j hj => ?_⟩
        cases j with
        | zero => simpa using h0
        | succ j => rw [hit_succ]; exact h2 j (by omega)
theorem pos_none_hit : ∀ {bs : List Nat}, pos bs = none → ∀ j, hit bs j = false
  | [], _, j => hit_nil j
  | c :: t, h, j => by
    unfold pos at h
    split at h
    · cases h
    · rename_i h0
      have hp : pos t = none := by simpa using h
      cases j with
      | zero => simpa using h0
      | succ j => rw [hit_succ]; exact pos_none_hit hp j
theorem hit_lt {bs : List Nat} {i : Nat} (h : hit bs i = true) : i + 2 ≤ bs.length := by
  simp [hit] at h
  have := (List.getElem?_eq_some_iff.1 h.2).1
  omega
theorem pos_lt {bs : List Nat} {i : Nat} (h : pos bs = some i) : i + 2 ≤ bs.length := hit_lt (pos_some_hit h).1

/-- As the library looks for it. -/
theorem index_pos : ∀ {bs : List Nat}, (∀ c ∈ bs, c < 256) → Lib.index (Lib.bytesOf (bs.map fun (c : Nat) => (c : Int))) [13, 10] = match pos bs with | none => -1 | some i => (i : Int)
  | [], _ => rfl
  | c :: t, h => by
    have ih := index_pos (bs := t) (fun x hx => h x (List.mem_cons_of_mem _ hx))
    have e : Lib.bytesOf ((c :: t).map fun (c : Nat) => (c : Int)) = UInt8.ofNat c :: Lib.bytesOf (t.map fun (c : Nat) => (c : Int)) := by simp [Lib.bytesOf]
    have hb : ∀ (x : Nat) (k : Nat), x < 256 → k < 256 → ((UInt8.ofNat k == UInt8.ofNat x) = (x == k)) := by
      intro x k hx hk
      rw [Bool.eq_iff_iff, beq_iff_eq, beq_iff_eq]
      constructor
      · intro he
        have := congrArg UInt8.toNat he
        simp at this
        omega
      · rintro rfl; rfl
    have hp : ([13, 10] : List UInt8).isPrefixOf (UInt8.ofNat c :: Lib.bytesOf (t.map fun (c : Nat) => (c : Int))) = hit (c :: t) 0 := by
      have hc := hb c 13 (h c (by simp)) (by omega)
      cases t with
      | nil => simp [List.isPrefixOf, Lib.bytesOf, hit]
      | cons d t =>
        have hd := hb d 10 (h d (by simp)) (by omega)
        have e13 : (13 : UInt8) = UInt8.ofNat 13 := rfl
        have e10 : (10 : UInt8) = UInt8.ofNat 10 := rfl
        simp only [List.isPrefixOf, Lib.bytesOf, List.map_cons, Int.toNat_natCast, hit]
        rw [e13, e10, hc, hd]
        simp
    rw [e]
    unfold Lib.index pos
    rw [hp, ih]
    split
    · rfl
    · cases pos t with
      | none => rfl
      | some i =>
        have : ((i : Int) == -1) = false := by rw [beq_eq_false_iff_ne]; omega
        simp [this]

/-! ### What is asked for -/
/-- What waits behind a line is asked for. -/
def nextS (bs : List Nat) : List Nat := match pos bs with | none => bs | some i => bs.drop (i + 2)
/-- Its text. -/
def nextT (bs : List Nat) (most : Int) : List Nat := match pos bs with | none => [] | some i => if (i : Int) > max most 0 then [] else bs.take i
/-- Is it too long? -/
def nextL (bs : List Nat) (most : Int) : Bool := match pos bs with | none => false | some i => decide ((i : Int) > max most 0)
/-- Is a line whole? -/
def nextK (bs : List Nat) : Bool := (pos bs).isSome
/-- The document's own: the text, and how many bytes are taken. -/
def lineT (bs : List Nat) : List Nat := match pos bs with | none => [] | some i => bs.take i
def lineN (bs : List Nat) : Nat := match pos bs with | none => 0 | some i => i + 2

section
variable {bs : List Nat} {i : Nat} {most : Int}
theorem nextS_none (h : pos bs = none) : nextS bs = bs := by simp [nextS, h]
theorem nextT_none (h : pos bs = none) : nextT bs most = [] := by simp [nextT, h]
theorem nextL_none (h : pos bs = none) : nextL bs most = false := by simp [nextL, h]
theorem nextK_none (h : pos bs = none) : nextK bs = false := by simp [nextK, h]
theorem lineT_none (h : pos bs = none) : lineT bs = [] := by simp [lineT, h]
theorem lineN_none (h : pos bs = none) : lineN bs = 0 := by simp [lineN, h]
theorem nextS_some (h : pos bs = some i) : nextS bs = bs.drop (i + 2) := by simp [nextS, h]
theorem nextK_some (h : pos bs = some i) : nextK bs = true := by simp [nextK, h]
theorem lineT_some (h : pos bs = some i) : lineT bs = bs.take i := by simp [lineT, h]
theorem lineN_some (h : pos bs = some i) : lineN bs = i + 2 := by simp [lineN, h]
theorem nextT_long (h : pos bs = some i) (hl : max most 0 < (i : Int)) : nextT bs most = [] := by simp [nextT, h, hl]
theorem nextL_long (h : pos bs = some i) (hl : max most 0 < (i : Int)) : nextL bs most = true := by simp [nextL, h, hl]
theorem nextT_short (h : pos bs = some i) (hl : (i : Int) ≤ max most 0) : nextT bs most = bs.take i := by
  have : ¬ ((i : Int) > max most 0) := by omega
  simp [nextT, h, this]
theorem nextL_short (h : pos bs = some i) (hl : (i : Int) ≤ max most 0) : nextL bs most = false := by
  have : ¬ ((i : Int) > max most 0) := by omega
  simp [nextL, h, this]
end

/-! ### A text without 13, and its end -/
theorem no13 {l t : List Nat} (h : ∀ c ∈ l, c ≠ 13) (j : Nat) (hj : hit (l ++ t) j = true) : l.length ≤ j := by
  rcases Nat.lt_or_ge j l.length with hlt | hge
  · simp [hit] at hj
    have h1 := hj.1
    rw [List.getElem?_append_left hlt, List.getElem?_eq_getElem hlt] at h1
    exact absurd (by simpa using h1) (h _ (List.getElem_mem hlt))
  · exact hge
theorem pos_no13 {l : List Nat} (h : ∀ c ∈ l, c ≠ 13) : pos l = none := pos_none fun j => by
  cases hj : hit l j with
  | false => rfl
  | true =>
    have h1 := no13 (t := []) h j (by simpa using hj)
    have := hit_lt hj
    omega
theorem pos_no13' {l : List Nat} (h : ∀ c ∈ l, c ≠ 13) : pos (l ++ [13]) = none := pos_none fun j => by
  cases hj : hit (l ++ [13]) j with
  | false => rfl
  | true =>
    have h1 := no13 h j hj
    have := hit_lt hj
    simp at this
    omega
theorem pos_end {l : List Nat} (h : ∀ c ∈ l, c ≠ 13) : pos (l ++ [13] ++ [10]) = some l.length := by
  refine pos_first (by simp [hit]) fun j hj => ?_
  cases hh : hit (l ++ [13] ++ [10]) j with
  | false => rfl
  | true =>
    rw [List.append_assoc] at hh
    have := no13 h j hh
    omega
/-- With its end behind it, a text has a line. -/
theorem pos_behind (l : List Nat) : ∃ i, pos (l ++ [13, 10]) = some i ∧ i ≤ l.length := by
  cases hp : pos (l ++ [13, 10]) with
  | none =>
    have := pos_none_hit hp l.length
    simp [hit] at this
  | some i =>
    have := pos_lt hp
    simp at this
    exact ⟨i, rfl, by omega⟩
end Go.Proofs.Ytcplemamcgonkaa.Ln
