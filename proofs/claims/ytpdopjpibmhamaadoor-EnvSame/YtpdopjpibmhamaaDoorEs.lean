/-
  What the walk of EnvSame asks.
-/
import Derived.Test.YtpdopjpibmhamaaDoorEr
import Derived.Test.YtpdopjpibmhamaaDoorF6
import Derived.Test.YtpdopjpibmhamaaDoorF1
namespace Go.Proofs.YtpdopjpibmhamaaDoor.Ln
open Go.RowKit
set_option linter.unusedVariables false
set_option linter.unusedSimpArgs false

/-- The six cells of a mail. -/
def Cells (w : World) (A : Nat) (m : Ml) (rx : Option Addr) (rn rc : Nat) (bx : Option Addr) (bn bc : Nat) : Prop :=
  w.cell? ⟨A, 0, none⟩ = some (.int .i64 m.id) ∧ w.cell? ⟨A, 1, none⟩ = some (.int .i64 m.parent) ∧ w.cell? ⟨A, 2, none⟩ = some (.int .i64 m.born) ∧ w.cell? ⟨A, 3, none⟩ = some (.string m.frm) ∧ w.cell? ⟨A, 4, none⟩ = some (.slice rx rn rc) ∧ w.cell? ⟨A, 5, none⟩ = some (.slice bx bn bc)
theorem cells_of {w : World} {A : Nat} {m : Ml} {rx bx : Option Addr} {rn rc bn bc : Nat} (h : At w A 25 (mlC m rx rn rc bx bn bc)) : Cells w A m rx rn rc bx bn bc := ⟨h.cell 0, h.cell 1, h.cell 2, h.cell 3, h.cell 4, h.cell 5⟩
theorem light_parts {m : Ml} (h : lightB m = true) : m.frm.size ≤ 100000 ∧ (∀ s ∈ m.rcpts, s.size ≤ 100000) ∧ m.rcpts.length ≤ 50 ∧ m.body.length ≤ 9000 := by
  simp only [lightB, Bool.and_eq_true, decide_eq_true_eq, List.all_eq_true] at h
  exact ⟨by omega, fun s hs => by have := h.2.1 s hs; omega, h.1, h.2.2.2⟩
end Go.Proofs.YtpdopjpibmhamaaDoor.Ln
