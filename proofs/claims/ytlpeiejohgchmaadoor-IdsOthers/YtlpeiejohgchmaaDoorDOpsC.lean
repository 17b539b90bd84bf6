/-
  What 'Rename', 'Append' and 'Read' return and do.
-/
import Derived.Test.YtlpeiejohgchmaaDoorDOpsB
import Derived.Deep.RegionHeld3
namespace Go.Proofs.YtlpeiejohgchmaaDoor.Fs
open Go.RowKit Go.Maps
set_option linter.unusedVariables false

/-! ### Rename -/
theorem ready2 {s : St} {A B : ByteArray} (h : readyE s [nm A, nm B] = 0) : A.size ≤ 80 ∧ B.size ≤ 80 := by
  by_cases hn : isNm (nm A) = true
  · by_cases hm : isNm (nm B) = true
    · have h1 := isNm_length hn
      have h2 := isNm_length hm
      rw [nm_length] at h1 h2
      exact ⟨h1, h2⟩
    · simp [readyE, hm] at h
  · simp [readyE, hn] at h
/-! ### Read -/
/-- What 'Read' leaves behind. -/
def Got (w : World) (S : Nat → Prop) (f : Nat) (s : St) (a : Nm) (e : Ending) (w' : World) : Prop :=
  ∃ y n c, n = (readV s a).length ∧ e = .returned (.tuple #[.slice y n c, .int .i64 ((findE s a : Nat) : Int)]) ∧ Own w' (.slice y n c) (readV s a) ∧ (∀ b, (Value.slice y n c).ownBlock = some b → w.heap.size ≤ b) ∧ Disk w' S f s ∧ Keep (fun _ => False) w w'
end Go.Proofs.YtlpeiejohgchmaaDoor.Fs
