/-
  The document's own New, with what its Domain and Small do put in.
-/
import Derived.Test.YtcjljldknekhiaaGreatDoorKRn
import Derived.Test.YtcjljldknekhiaaGreatDoorKg10
import Derived.Test.YtcjljldknekhiaaGreatDoorKVy
import Derived.Test.YtcjljldknekhiaaGreatDoorKg12
namespace Go.Proofs.YtcjljldknekhiaaGreatDoor.Ln
open Go.RowKit
set_option linter.unusedVariables false
set_option linter.unusedSimpArgs false

theorem domC9 : DomC dom9 := fun l w hl => (Ad.refDomain_walk l hl w).mono (by rintro e w' ⟨rfl, hb⟩; exact ⟨rfl, Keep.of_below hb⟩)
theorem smallC9 : SmallC low9 := ⟨low9_size, fun l w hl => (Ad.refSmall_walk l (by omega) w).mono (by rintro e w' ⟨rfl, hb⟩; exact ⟨rfl, Keep.of_below hb⟩)⟩
end Go.Proofs.YtcjljldknekhiaaGreatDoor.Ln
