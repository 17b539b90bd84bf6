/-
  A row of one's own into which one writes: only that it holds bytes.
-/
import Derived.Test.YtpdopjpibmhamaaGreatDoorEi
namespace Go.Proofs.YtpdopjpibmhamaaGreatDoor.Ln
open Go.RowKit
set_option linter.unusedVariables false
set_option linter.unusedSimpArgs false

def RowA (w : World) (g n : Nat) : Prop := ∃ cur : Array Value, At w g 5 cur ∧ ∀ i, i < n → ∃ z, cur[i]? = some (.int .u8 z)
theorem RowB.any {w : World} {g n : Nat} {bs : List Nat} (h : RowB w g bs) (hn : n = bs.length) : RowA w g n := by
  obtain ⟨cur, h1, h2⟩ := h
  exact ⟨cur, h1, fun i hi => ⟨_, h2 i (by omega)⟩⟩
theorem RowA.keep {S : Nat → Prop} {w w' : World} {g n : Nat} (h : RowA w g n) (k : Keep S w w') (hs : ¬ S g) : RowA w' g n := by
  obtain ⟨cur, h1, h2⟩ := h
  exact ⟨cur, h1.keep k hs, h2⟩
theorem RowA.at {w : World} {g n : Nat} (h : RowA w g n) {i : Nat} (hi : i < n) : ∃ z, w.cell? ⟨g, i, none⟩ = some (.int .u8 z) ∧ w.frozen? ⟨g, i, none⟩ = false ∧ g < w.heap.size := by
  obtain ⟨cur, h1, h2⟩ := h
  obtain ⟨z, hz⟩ := h2 i hi
  exact ⟨z, (h1.cell i).trans hz, h1.frozen i, h1.lt⟩
theorem RowA.put {w : World} {g n : Nat} (h : RowA w g n) {i : Nat} (hi : i < n) (c : Int) : RowA (w.setCell ⟨g, i, none⟩ (.int .u8 c)) g n := by
  obtain ⟨cur, h1, h2⟩ := h
  refine ⟨_, h1.put i _, fun j hj => ?_⟩
  have hic : i < cur.size := by
    obtain ⟨z, hz⟩ := h2 i hi
    exact (Array.getElem?_eq_some_iff.1 hz).1
  rw [Array.getElem?_setIfInBounds]
  by_cases hij : i = j
  · subst hij
    exact ⟨c, by simp [hic]⟩
  · rw [if_neg hij]
    exact h2 j hj
end Go.Proofs.YtpdopjpibmhamaaGreatDoor.Ln
