/-
  What the laws' own walks ask again and again.
-/
import Derived.Test.YtpdopjpibmhamaaGreatDoorEr
import Derived.Test.YtpdopjpibmhamaaGreatDoorF5
import Derived.Test.YtpdopjpibmhamaaGreatDoorF6
import Derived.Test.YtpdopjpibmhamaaGreatDoorF1
import Derived.Test.YtpdopjpibmhamaaGreatDoorF3
namespace Go.Proofs.YtpdopjpibmhamaaGreatDoor.Ln
open Go.RowKit
set_option linter.unusedVariables false
set_option linter.unusedSimpArgs false

theorem begins_good {bs : List Nat} (h : beginsB bs = true) : goodM (readMl (innerM bs)) = true := by
  simp only [beginsB, Bool.and_eq_true] at h
  exact h.2.2
theorem good_rn {m : Ml} (h : goodM m = true) : m.rcpts.length ≤ 100 := by
  have := (goodM_fine h).n
  omega
theorem begun_rn {bs : List Nat} {m : Ml} {n rn : Nat} (hif : if beginsB bs = true then m = readMl (innerM bs) ∧ n = (innerM bs).length + 12 else m = noMl ∧ n = 0) (hr : rn = m.rcpts.length) : rn ≤ 1000000 := by
  cases h : beginsB bs with
  | false =>
    rw [h] at hif
    obtain ⟨rfl, _⟩ := hif
    subst hr
    decide
  | true =>
    rw [h, if_pos rfl] at hif
    have := good_rn (begins_good h)
    rw [← hif.1] at this
    omega
theorem begun_eq {bs : List Nat} {m m' : Ml} {n n' : Nat} (h : if beginsB bs = true then m = readMl (innerM bs) ∧ n = (innerM bs).length + 12 else m = noMl ∧ n = 0) (h' : if beginsB bs = true then m' = readMl (innerM bs) ∧ n' = (innerM bs).length + 12 else m' = noMl ∧ n' = 0) : m' = m ∧ n' = n := by
  split at h
  · rename_i hb
    rw [if_pos hb] at h'
    exact ⟨h'.1.trans h.1.symm, h'.2.trans h.2.symm⟩
  · rename_i hb
    rw [if_neg hb] at h'
    exact ⟨h'.1.trans h.1.symm, h'.2.trans h.2.symm⟩
/-- The six cells of a mail. -/
def Cells (w : World) (A : Nat) (m : Ml) (rx : Option Addr) (rn rc : Nat) (bx : Option Addr) (bn bc : Nat) : Prop :=
  w.cell? ⟨A, 0, none⟩ = some (.int .i64 m.id) ∧ w.cell? ⟨A, 1, none⟩ = some (.int .i64 m.parent) ∧ w.cell? ⟨A, 2, none⟩ = some (.int .i64 m.born) ∧ w.cell? ⟨A, 3, none⟩ = some (.string m.frm) ∧ w.cell? ⟨A, 4, none⟩ = some (.slice rx rn rc) ∧ w.cell? ⟨A, 5, none⟩ = some (.slice bx bn bc)
theorem cells_of {w : World} {A : Nat} {m : Ml} {rx bx : Option Addr} {rn rc bn bc : Nat} (h : At w A 25 (mlC m rx rn rc bx bn bc)) : Cells w A m rx rn rc bx bn bc := ⟨h.cell 0, h.cell 1, h.cell 2, h.cell 3, h.cell 4, h.cell 5⟩
/-- A mail put into a variable just made. -/
theorem put_mail (w : World) (m : Ml) (rx : Option Addr) (rn rc : Nat) (bx : Option Addr) (bn bc : Nat) :
    ∃ W, W = (w.alloc (.cells #[.int .i64 0, .int .i64 0, .int .i64 0, .string { data := #[] }, .slice none 0 0, .slice none 0 0] 25)).setRow w.heap.size (mlC m rx rn rc bx bn bc) ∧ Keep (fun _ => False) w W ∧ At W w.heap.size 25 (mlC m rx rn rc bx bn bc) ∧ w.heap.size < W.heap.size := by
  refine ⟨_, rfl, (keep_new w _).setRow (fun h => absurd h (Nat.lt_irrefl _)) _, (mz_new w).setRow _, ?_⟩
  have h := (Keep.setRow (g := w.heap.size) (Keep.refl (fun _ => True) (w.alloc (.cells #[.int .i64 0, .int .i64 0, .int .i64 0, .string { data := #[] }, .slice none 0 0, .slice none 0 0] 25))) (fun _ => trivial) (mlC m rx rn rc bx bn bc)).size
  have h2 : (w.alloc (.cells #[.int .i64 0, .int .i64 0, .int .i64 0, .string { data := #[] }, .slice none 0 0, .slice none 0 0] 25)).heap.size = w.heap.size + 1 := by simp
  omega
end Go.Proofs.YtpdopjpibmhamaaGreatDoor.Ln
