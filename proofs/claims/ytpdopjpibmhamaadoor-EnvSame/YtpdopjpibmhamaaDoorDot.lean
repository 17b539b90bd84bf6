/-
  Bodies as plain lists: the texts of one, what it is sent as, and what a line that came is.
-/
import Derived.Test.YtpdopjpibmhamaaDoorMath
namespace Go.Proofs.YtpdopjpibmhamaaDoor.Ln
set_option linter.unusedVariables false

/-- Neither 10 nor 13. -/
def clean (l : List Nat) : Prop := ∀ c ∈ l, c ≠ 10 ∧ c ≠ 13
/-- Texts, each with 10 behind. -/
def joinL : List (List Nat) → List Nat
  | [] => []
  | l :: L => l ++ 10 :: joinL L
/-- bs is a body, of these texts. -/
def Body (L : List (List Nat)) (bs : List Nat) : Prop := (∀ l ∈ L, clean l) ∧ bs = joinL L

theorem joinL_append (A B : List (List Nat)) : joinL (A ++ B) = joinL A ++ joinL B := by
  induction A with
  | nil => rfl
  | cons l A ih => simp [joinL, ih]
theorem joinL_one (l : List Nat) : joinL [l] = l ++ [10] := rfl
theorem joinL_snoc (A : List (List Nat)) (l : List Nat) : joinL (A ++ [l]) = joinL A ++ l ++ [10] := by simp [joinL_append, joinL]
theorem joinL_nil {L : List (List Nat)} (h : joinL L = []) : L = [] := by
  cases L with
  | nil => rfl
  | cons l L => simp [joinL] at h

/-- Two cuts at the first 10 are one. -/
theorem cut10 : ∀ {d l X Y : List Nat}, (∀ c ∈ d, c ≠ 10) → (∀ c ∈ l, c ≠ 10) → d ++ 10 :: X = l ++ 10 :: Y → d = l ∧ X = Y
  | [], [], X, Y, _, _, h => ⟨rfl, by simpa using h⟩
  | [], c :: l, X, Y, _, hl, h => by
    have : 10 = c := by simp at h; exact h.1
    exact absurd this.symm (hl c (by simp))
  | c :: d, [], X, Y, hd, _, h => by
    have : c = 10 := by simp at h; exact h.1
    exact absurd this (hd c (by simp))
  | c :: d, e :: l, X, Y, hd, hl, h => by
    simp at h
    obtain ⟨h1, h2⟩ := cut10 (d := d) (l := l) (fun x hx => hd x (by simp [hx])) (fun x hx => hl x (by simp [hx])) h.2
    exact ⟨by rw [h.1, h1], h2⟩
/-- A body that begins with these texts has more behind. -/
theorem body_front : ∀ {D L : List (List Nat)} {R : List Nat}, (∀ l ∈ D, clean l) → (∀ l ∈ L, clean l) → joinL D ++ R = joinL L → ∃ L', L = D ++ L' ∧ R = joinL L'
  | [], L, R, _, _, h => ⟨L, rfl, by simpa [joinL] using h⟩
  | d :: D, [], R, _, _, h => by simp [joinL] at h
  | d :: D, l :: L, R, hD, hL, h => by
    simp only [joinL, List.append_assoc, List.cons_append] at h
    obtain ⟨rfl, h2⟩ := cut10 (fun c hc => (hD d (by simp) c hc).1) (fun c hc => (hL l (by simp) c hc).1) h
    obtain ⟨L', e, hR⟩ := body_front (D := D) (L := L) (fun x hx => hD x (by simp [hx])) (fun x hx => hL x (by simp [hx])) h2
    exact ⟨L', by rw [e]; rfl, hR⟩
theorem body_same {A B : List (List Nat)} {bs : List Nat} (h : Body A bs) (k : Body B bs) : A = B := by
  obtain ⟨L', e, hR⟩ := body_front (D := A) (L := B) (R := []) h.1 k.1 (by rw [List.append_nil, ← h.2, ← k.2])
  rw [e, joinL_nil hR.symm, List.append_nil]

/-- Its texts, cut at each 10. -/
def linesOf : List Nat → List (List Nat)
  | [] => []
  | c :: t => if c = 10 then [] :: linesOf t else match linesOf t with
    | [] => [[c]]
    | l :: L => (c :: l) :: L
/-- Is it a body? -/
def bodyB (bs : List Nat) : Bool := bs.all (fun c => c != 13) && (bs.getLast? == none || bs.getLast? == some 10)

theorem linesOf_mem : ∀ {bs : List Nat} {l : List Nat}, l ∈ linesOf bs → ∀ c ∈ l, c ≠ 10 ∧ c ∈ bs
  | [], l, h, c, hc => by simp [linesOf] at h
  | b :: t, l, h, c, hc => by
    unfold linesOf at h
    split at h
    · rcases List.mem_cons.1 h with rfl | h
      · simp at hc
      · have := linesOf_mem h c hc
        exact ⟨this.1, List.mem_cons_of_mem _ this.2⟩
    · rename_i hb
      split at h
      · obtain rfl : l = [b] := by simpa using h
        obtain rfl : c = b := by simpa using hc
        exact ⟨hb, by simp⟩
      · rename_i l0 L0 e
        rcases List.mem_cons.1 h with rfl | h
        · rcases List.mem_cons.1 hc with rfl | hc
          · exact ⟨hb, by simp⟩
          · have := linesOf_mem (bs := t) (l := l0) (by rw [e]; simp) c hc
            exact ⟨this.1, List.mem_cons_of_mem _ this.2⟩
        · have := linesOf_mem (bs := t) (l := l) (by rw [e]; simp [h]) c hc
          exact ⟨this.1, List.mem_cons_of_mem _ this.2⟩
theorem linesOf_join : ∀ {bs : List Nat}, (bs = [] ∨ bs.getLast? = some 10) → joinL (linesOf bs) = bs
  | [], _ => rfl
  | c :: t, h => by
    have hl : (c :: t).getLast? = some 10 := by
      rcases h with h | h
      · cases h
      · exact h
    have ht : t = [] ∨ t.getLast? = some 10 := by
      cases t with
      | nil => exact .inl rfl
      | cons d t => right; simpa using hl
    have ih := linesOf_join ht
    unfold linesOf
    split
    · rename_i hc
      subst hc
      simp [joinL, ih]
    · rename_i hc
      split
      · rename_i e
        rw [e] at ih
        have : t = [] := ih.symm
        subst this
        simp at hl
        exact absurd hl hc
      · rename_i l L e
        rw [e] at ih
        simp only [joinL, List.cons_append] at ih ⊢
        rw [ih]
theorem bodyB_body {bs : List Nat} (h : bodyB bs = true) : Body (linesOf bs) bs := by
  simp only [bodyB, Bool.and_eq_true, Bool.or_eq_true, beq_iff_eq, List.all_eq_true, bne_iff_ne] at h
  refine ⟨fun l hl c hc => ⟨(linesOf_mem hl c hc).1, h.1 c (linesOf_mem hl c hc).2⟩, (linesOf_join ?_).symm⟩
  rcases h.2 with h2 | h2
  · exact .inl (List.getLast?_eq_none_iff.1 h2)
  · exact .inr h2
theorem joinL_last : ∀ {L : List (List Nat)}, L ≠ [] → (joinL L).getLast? = some 10
  | [], h => absurd rfl h
  | [l], _ => by simp [joinL]
  | l :: m :: L, _ => by
    have ih := joinL_last (L := m :: L) (by simp)
    have hne : joinL (m :: L) ≠ [] := by simp [joinL]
    rw [joinL, List.getLast?_append]
    rw [List.getLast?_cons]
    simp [ih]
theorem joinL_clean : ∀ {L : List (List Nat)}, (∀ l ∈ L, clean l) → ∀ c ∈ joinL L, c ≠ 13
  | [], _, c, hc => by simp [joinL] at hc
  | l :: L, h, c, hc => by
    simp only [joinL, List.mem_append, List.mem_cons] at hc
    rcases hc with hc | rfl | hc
    · exact (h l (by simp) c hc).2
    · decide
    · exact joinL_clean (fun x hx => h x (by simp [hx])) c hc
theorem body_bodyB {L : List (List Nat)} {bs : List Nat} (h : Body L bs) : bodyB bs = true := by
  simp only [bodyB, Bool.and_eq_true, Bool.or_eq_true, beq_iff_eq, List.all_eq_true, bne_iff_ne]
  rw [h.2]
  refine ⟨joinL_clean h.1, ?_⟩
  by_cases hL : L = []
  · left; subst hL; rfl
  · exact .inr (joinL_last hL)
theorem body_lines {L : List (List Nat)} {bs : List Nat} (h : Body L bs) : linesOf bs = L := body_same (bodyB_body (body_bodyB h)) h
/-- What is no body: what comes next has no 10, or a 13 ahead of it. -/
theorem bodyB_false {D : List (List Nat)} {R bs : List Nat} (hD : ∀ l ∈ D, clean l) (e : bs = joinL D ++ R) (h : (R ≠ [] ∧ ∀ c ∈ R, c ≠ 10) ∨ ∃ t X, R = t ++ 10 :: X ∧ (∀ c ∈ t, c ≠ 10) ∧ 13 ∈ t) : bodyB bs = false := by
  cases hb : bodyB bs with
  | false => rfl
  | true =>
    obtain ⟨hL, e2⟩ := bodyB_body hb
    obtain ⟨L', _, hR⟩ := body_front hD hL (e.symm.trans e2)
    have hL' : ∀ l ∈ L', clean l := fun l hl => hL l (by rename_i e3; rw [e3]; simp [hl])
    rcases h with ⟨h1, h2⟩ | ⟨t, X, rfl, h2, h3⟩
    · cases L' with
      | nil => exact absurd hR h1
      | cons l L' => exact absurd rfl (h2 10 (by rw [hR]; simp [joinL]))
    · cases L' with
      | nil => simp [joinL] at hR
      | cons l L' =>
        obtain ⟨rfl, _⟩ := cut10 h2 (fun c hc => (hL' l (by simp) c hc).1) hR
        exact absurd rfl (hL' t (by simp) 13 h3).2
theorem body_snoc {D : List (List Nat)} {t : List Nat} (hD : ∀ l ∈ D, clean l) (ht : clean t) : ∀ l ∈ D ++ [t], clean l := fun l hl => by
  rcases List.mem_append.1 hl with h | h
  · exact hD l h
  · obtain rfl : l = t := by simpa using h
    exact ht
theorem body_append {A B : List (List Nat)} {a b : List Nat} (h : Body A a) (k : Body B b) : Body (A ++ B) (a ++ b) := by
  refine ⟨fun l hl => ?_, by rw [joinL_append, h.2, k.2]⟩
  rcases List.mem_append.1 hl with h1 | h1
  · exact h.1 l h1
  · exact k.1 l h1
theorem joinL_count : ∀ (L : List (List Nat)), L.length ≤ (joinL L).length
  | [] => Nat.le_refl _
  | l :: L => by
    have := joinL_count L
    simp [joinL]
    omega

/-! ### What it is sent as -/
/-- A text, with a point more if it begins with one. -/
def stuffT (l : List Nat) : List Nat := if l.head? = some 46 then 46 :: l else l
def stuffs : List (List Nat) → List Nat
  | [] => []
  | l :: L => stuffT l ++ 13 :: 10 :: stuffs L
def stuffM (L : List (List Nat)) : List Nat := stuffs L ++ [46, 13, 10]
theorem stuffs_append (A B : List (List Nat)) : stuffs (A ++ B) = stuffs A ++ stuffs B := by
  induction A with
  | nil => rfl
  | cons l A ih => simp [stuffs, ih]
theorem stuffs_snoc (A : List (List Nat)) (l : List Nat) : stuffs (A ++ [l]) = stuffs A ++ stuffT l ++ [13, 10] := by simp [stuffs_append, stuffs]
theorem stuffs_count : ∀ (L : List (List Nat)), (stuffs L).length ≤ 3 * (joinL L).length
  | [] => Nat.le_refl _
  | l :: L => by
    have := stuffs_count L
    simp only [stuffs, joinL, List.length_append, List.length_cons, stuffT]
    split <;> rename_i h
    · cases l with
      | nil => simp at h
      | cons c l => simp; omega
    · omega
theorem stuffT_lt {l : List Nat} (h : ∀ c ∈ l, c < 256) : ∀ c ∈ stuffT l, c < 256 := fun c hc => by
  unfold stuffT at hc
  split at hc
  · rcases List.mem_cons.1 hc with rfl | hc
    · decide
    · exact h c hc
  · exact h c hc
theorem joinL_lt : ∀ {L : List (List Nat)}, (∀ c ∈ joinL L, c < 256) → ∀ l ∈ L, ∀ c ∈ l, c < 256
  | [], _, l, hl => by simp at hl
  | m :: L, h, l, hl => by
    rcases List.mem_cons.1 hl with rfl | hl
    · exact fun c hc => h c (by simp [joinL, hc])
    · exact joinL_lt (fun c hc => h c (by simp [joinL, hc])) l hl
theorem stuffs_lt : ∀ {L : List (List Nat)}, (∀ l ∈ L, ∀ c ∈ l, c < 256) → ∀ c ∈ stuffs L, c < 256
  | [], _, c, hc => by simp [stuffs] at hc
  | l :: L, h, c, hc => by
    simp only [stuffs, List.mem_append, List.mem_cons] at hc
    rcases hc with hc | rfl | rfl | hc
    · exact stuffT_lt (h l (by simp)) c hc
    · decide
    · decide
    · exact stuffs_lt (fun x hx => h x (by simp [hx])) c hc
theorem stuffM_lt {L : List (List Nat)} (h : ∀ l ∈ L, ∀ c ∈ l, c < 256) : ∀ c ∈ stuffM L, c < 256 := fun c hc => by
  rcases List.mem_append.1 hc with hc | hc
  · exact stuffs_lt h c hc
  · simp at hc; omega

/-! ### What a line that came is -/
def unE (l : List Nat) : Bool := l == [46]
def unT (l : List Nat) : List Nat := if l = [46] then [] else if l.head? = some 46 then l.drop 1 else l
theorem un_stuff {l : List Nat} : unE (stuffT l) = false ∧ unT (stuffT l) = l := by
  unfold stuffT
  split
  · rename_i h
    cases l with
    | nil => simp at h
    | cons c l => exact ⟨by simp [unE], by simp [unT]⟩
  · rename_i h
    have hne : l ≠ [46] := by rintro rfl; exact h rfl
    exact ⟨by simp [unE, hne], by simp [unT, hne, h]⟩
theorem stuffT_no13 {l : List Nat} (h : ∀ c ∈ l, c ≠ 13) : ∀ c ∈ stuffT l, c ≠ 13 := fun c hc => by
  unfold stuffT at hc
  split at hc
  · rcases List.mem_cons.1 hc with rfl | hc
    · decide
    · exact h c hc
  · exact h c hc
theorem pos_at {l R : List Nat} (h : ∀ c ∈ l, c ≠ 13) : pos (l ++ 13 :: 10 :: R) = some l.length := by
  refine pos_first (by simp [hit]) fun j hj => ?_
  cases hh : hit (l ++ 13 :: 10 :: R) j with
  | false => rfl
  | true =>
    have := no13 h j hh
    omega
theorem stuffM_nil : pos (stuffM []) = some 1 ∧ (stuffM []).take 1 = [46] ∧ (stuffM []).drop 3 = [] := by decide
theorem stuffM_cons {l : List Nat} {L : List (List Nat)} (h : ∀ c ∈ l, c ≠ 13) :
    pos (stuffM (l :: L)) = some (stuffT l).length ∧ (stuffM (l :: L)).take (stuffT l).length = stuffT l ∧ (stuffM (l :: L)).drop ((stuffT l).length + 2) = stuffM L := by
  have e : stuffM (l :: L) = stuffT l ++ 13 :: 10 :: stuffM L := by simp [stuffM, stuffs]
  rw [e]
  refine ⟨pos_at (stuffT_no13 h), by simp, ?_⟩
  rw [← List.drop_drop, List.drop_left]
  rfl
end Go.Proofs.YtpdopjpibmhamaaDoor.Ln
