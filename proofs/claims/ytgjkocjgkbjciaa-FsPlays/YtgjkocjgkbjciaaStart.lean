/-
  Both disks at the start; a row's cells, one by one.
-/
import Derived.Test.YtgjkocjgkbjciaaAlk
namespace Go.Proofs.Ytgjkocjgkbjciaa.Fs
open Go.RowKit Go.Maps
set_option linter.unusedVariables false

theorem two_start (n : Int) {w v : World} (hd : Disk v (· = w.heap.size) w.heap.size (newS n)) (k : Keep (fun _ => False) w v) (z : v.heap.size = w.heap.size + 1) :
    Two (v.alloc (.cells #[.slice none 0 0, .slice none 0 0, .slice none 0 0, .int .i64 (min (max n 0) 16777216), .int .i64 (-1), .bool false] 31)) w.heap.size w.heap.size v.heap.size (newS n) := by
  have ka : Keep (fun _ => False) v (v.alloc (.cells #[.slice none 0 0, .slice none 0 0, .slice none 0 0, .int .i64 (min (max n 0) 16777216), .int .i64 (-1), .bool false] 31)) := (Keep.refl _ v).alloc _
  have hr : ((newS n).room : Int) = min (max n 0) 16777216 := by show ((min (max n 0) 16777216).toNat : Int) = _; omega
  refine ⟨newS n, (· = w.heap.size), (· = v.heap.size), ⟨hd.keep ka (fun _ _ h => h), ⟨⟨.slice none 0 0, .slice none 0 0, .slice none 0 0, [], ?_, rfl, Row.nil _ _ _ _, Row.nil _ _ _ _, Row.nil _ _ _ _, rfl, by simp⟩, newS_good n, List.Pairwise.nil⟩, fun b e => ?_, fun b e => ?_, fun b e e2 => ?_⟩, Sim.refl _, ⟨fun p hp => (by cases hp), fun c hc => (by cases hc)⟩⟩
  · rw [hr]
    exact At.new v _ _
  · subst e; simp; omega
  · subst e; simp; omega
  · omega
theorem cells6 {w : World} {g : Nat} {t : TypeId} {a0 a1 a2 a3 a4 a5 : Value} (h : At w g t #[a0, a1, a2, a3, a4, a5]) : w.cell? ⟨g, 0, none⟩ = some a0 ∧ w.cell? ⟨g, 1, none⟩ = some a1 ∧ w.cell? ⟨g, 2, none⟩ = some a2 ∧ w.cell? ⟨g, 3, none⟩ = some a3 ∧ w.cell? ⟨g, 4, none⟩ = some a4 ∧ w.cell? ⟨g, 5, none⟩ = some a5 :=
  ⟨h.cell 0, h.cell 1, h.cell 2, h.cell 3, h.cell 4, h.cell 5⟩

end Go.Proofs.Ytgjkocjgkbjciaa.Fs
