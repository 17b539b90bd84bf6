/-
  The calls, of a body and of what is none, with all that a law has done so far kept from its first world on.
-/
import Derived.Test.YtgocmapnnbpceaaAns
namespace Go.Proofs.Ytgocmapnnbpceaa.Ln
open Go.RowKit
set_option linter.unusedVariables false

section
variable {P : Nat → Prop} {w0 w : World} {x : Option Addr} {n cap : Nat} {bs : List Nat}
theorem stuff_bad (hb : bodyB bs = false) (hS : Since w0 w) (hm : Hm w0) (hn : n = bs.length) (hcap : n ≤ cap) (hB : Bytes P w x bs) (hl : n ≤ 100000) :
    Calls Try.prog 8 #[.slice x n cap] w fun e w' => e = .returned (.tuple #[.string { data := #[] }, .bool false]) ∧ Since w0 w' ∧ Keep (fun _ => False) w w' := by
  obtain ⟨m, hm'⟩ := hS.hm hm
  refine (stuff hn hcap hB hl m hm').mono ?_
  rintro e w' ⟨he, hk⟩
  rw [hb] at he
  exact ⟨he, hS.quiet hk, hk⟩
theorem stuff_good (hb : bodyB bs = true) (hS : Since w0 w) (hm : Hm w0) (hn : n = bs.length) (hcap : n ≤ cap) (hB : Bytes P w x bs) (hl : n ≤ 100000) :
    Calls Try.prog 8 #[.slice x n cap] w fun e w' => e = .returned (.tuple #[.string (str (stuffM (linesOf bs))), .bool true]) ∧ Since w0 w' ∧ Keep (fun _ => False) w w' := by
  obtain ⟨m, hm'⟩ := hS.hm hm
  refine (stuff hn hcap hB hl m hm').mono ?_
  rintro e w' ⟨he, hk⟩
  rw [hb, if_pos rfl] at he
  exact ⟨he, hS.quiet hk, hk⟩
theorem lines_bad (hb : bodyB bs = false) (hS : Since w0 w) (hm : Hm w0) (hn : n = bs.length) (hcap : n ≤ cap) (hB : Bytes P w x bs) (hl : n ≤ 100000) :
    Calls Try.prog 9 #[.slice x n cap] w fun e w' => (∃ y c, e = .returned (.tuple #[.slice y 0 c, .bool false])) ∧ Since w0 w' ∧ Keep (fun _ => False) w w' := by
  obtain ⟨m, hm'⟩ := hS.hm hm
  refine (lines hn hcap hB hl m hm').mono ?_
  rintro e w' ⟨v, he, hT, hk⟩
  rw [hb] at he hT
  obtain ⟨y, c, hv, _⟩ := hT.shape
  exact ⟨⟨y, c, by rw [he, hv]; rfl⟩, hS.quiet hk, hk⟩
theorem lines_good (hb : bodyB bs = true) (hS : Since w0 w) (hm : Hm w0) (hn : n = bs.length) (hcap : n ≤ cap) (hB : Bytes P w x bs) (hl : n ≤ 100000) :
    Calls Try.prog 9 #[.slice x n cap] w fun e w' => (∃ y c, e = .returned (.tuple #[.slice y (linesOf bs).length c, .bool true]) ∧ (linesOf bs).length ≤ c ∧ Txt w0.heap.size w' (.slice y (linesOf bs).length c) (linesOf bs)) ∧ Since w0 w' ∧ Keep (fun _ => False) w w' := by
  obtain ⟨m, hm'⟩ := hS.hm hm
  refine (lines hn hcap hB hl m hm').mono ?_
  rintro e w' ⟨v, he, hT, hk⟩
  rw [hb] at he hT
  rw [if_pos rfl] at hT
  obtain ⟨y, c, hv, hc, _⟩ := hT.shape
  subst hv
  exact ⟨⟨y, c, he, hc, hT.1, by
    rcases hT.2 with h0 | ⟨g, cap', cur, hv, hb', hr⟩
    · exact .inl h0
    · exact .inr ⟨g, cap', cur, hv, Nat.le_trans hS.size hb', hr⟩⟩, hS.quiet hk, hk⟩
theorem body_at {b : Bool} (hb : bodyB bs = b) (hn : n = bs.length) (hcap : n ≤ cap) (hB : Bytes P w x bs) (hl : n ≤ 1099511627776) :
    Calls Try.prog 10 #[.slice x n cap] w fun e w' => e = .returned (.bool b) ∧ w' = w := by
  have h := body hn hcap hB hl
  rw [hb] at h
  exact h
end
theorem lines_count {bs : List Nat} (hb : bodyB bs = true) : (linesOf bs).length ≤ bs.length := by
  have h := joinL_count (linesOf bs)
  rw [← (bodyB_body hb).2] at h
  exact h
end Go.Proofs.Ytgocmapnnbpceaa.Ln
