/-
  What the document's own Verb says, as a session takes it.
-/
import Derived.Test.YtcjljldknekhiaaGreatDoorKg8
import Derived.Test.YtcjljldknekhiaaGreatDoorKAR6
namespace Go.Proofs.YtcjljldknekhiaaGreatDoor.Ln
open Go.RowKit
set_option linter.unusedVariables false
set_option linter.unusedSimpArgs false

theorem verbC9 : VerbC V9 := by
  refine ⟨fun l => by rcases V9_codes l with h | h | h | h <;> rw [h] <;> decide, fun l w hl => ?_⟩
  refine (Ad.refVerb_walk l (by omega) w).mono ?_
  rintro e w' ⟨rfl, hb⟩
  exact ⟨by rw [V9_cmd], Keep.of_below hb⟩
end Go.Proofs.YtcjljldknekhiaaGreatDoor.Ln
