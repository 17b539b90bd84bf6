/-
  MAIL and RCPT, by the pieces between blanks.
-/
import Derived.Test.YtcjljldknekhiaaGreatDoorKg7
namespace Go.Proofs.YtcjljldknekhiaaGreatDoor.Ad
set_option linter.unusedVariables false

theorem mailM_short {r : List UInt8} (h : keyed kFrom r = false) : mailM r = bad 501 := by
  rw [mailM, pathOk, keyed_word (by decide), h]
  rfl
theorem mailM_path {r : List UInt8} (h : keyed kFrom r = true) (hp : isPath (ahd 32 (r.drop 5)) = false) : mailM r = bad 501 := by
  obtain ⟨e1, e2, e3⟩ := keyed_parts (key := kFrom) (by decide) h
  rw [mailM, pathOk, keyed_word (by decide), h, wordM, e1, Bool.true_and, show kFrom.length = 5 from rfl, hp]
  rfl
theorem mailM_opts {r : List UInt8} (h : keyed kFrom r = true) (hp : isPath (ahd 32 (r.drop 5)) = true) :
    mailM r = if (sizeGo (-1) 0 (cuts 32 (r.drop 5)).tail).2 = 0 then ⟨pathM (ahd 32 (r.drop 5)), (sizeGo (-1) 0 (cuts 32 (r.drop 5)).tail).1, 0⟩ else bad (sizeGo (-1) 0 (cuts 32 (r.drop 5)).tail).2 := by
  obtain ⟨e1, e2, e3⟩ := keyed_parts (key := kFrom) (by decide) h
  rw [show kFrom.length = 5 from rfl] at e1 e2 e3
  rw [mailM, pathOk, keyed_word (by decide), h, wordM, Bool.true_and, show kFrom.length = 5 from rfl, e1, hp, e2, e3, if_pos rfl, cuts_ahd 32 (r.drop 5), List.tail_cons]
  cases hc : (r.drop 5).contains 32 with
  | true => rfl
  | false => rfl
theorem rcptM_short {r : List UInt8} (h : keyed kTo r = false) : rcptM r = bad 501 := by
  rw [rcptM, pathOk, keyed_word (by decide), h]
  rfl
theorem rcptM_path {r : List UInt8} (h : keyed kTo r = true) (hp : isPath (ahd 32 (r.drop 3)) = false ∨ pathM (ahd 32 (r.drop 3)) = []) : rcptM r = bad 501 := by
  obtain ⟨e1, e2, e3⟩ := keyed_parts (key := kTo) (by decide) h
  rw [rcptM, pathOk, keyed_word (by decide), h, wordM, e1, Bool.true_and, show kTo.length = 3 from rfl]
  rcases hp with hp | hp
  · rw [hp]; rfl
  · rw [hp]; simp
theorem rcptM_opts {r : List UInt8} (h : keyed kTo r = true) (hp : isPath (ahd 32 (r.drop 3)) = true) (hq : pathM (ahd 32 (r.drop 3)) ≠ []) :
    rcptM r = if 1 < (cuts 32 (r.drop 3)).length then bad 555 else ⟨pathM (ahd 32 (r.drop 3)), -1, 0⟩ := by
  obtain ⟨e1, e2, e3⟩ := keyed_parts (key := kTo) (by decide) h
  rw [show kTo.length = 3 from rfl] at e1 e2 e3
  have hne : (pathM (ahd 32 (r.drop 3))).isEmpty = false := by
    cases hx : pathM (ahd 32 (r.drop 3)) with
    | nil => exact absurd hx hq
    | cons a t => rfl
  rw [rcptM, pathOk, keyed_word (by decide), h, wordM, Bool.true_and, show kTo.length = 3 from rfl, e1, hp, e3, hne, cuts_ahd 32 (r.drop 3)]
  cases hc : (r.drop 3).contains 32 with
  | true =>
    obtain ⟨q, t, e⟩ := List.exists_cons_of_ne_nil (cuts_ne 32 (bhd 32 (r.drop 3)))
    rw [if_pos rfl, e]
    simp
  | false => simp
theorem cuts_first (l : List UInt8) (h : 0 < (cuts 32 l).length) : (cuts 32 l)[0] = ahd 32 l := by
  simp only [cuts_ahd 32 l, List.getElem_cons_zero]
end Go.Proofs.YtcjljldknekhiaaGreatDoor.Ad
