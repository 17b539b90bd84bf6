/-
  DERIVED. GIVEN WITH THE SEED: THE CARDS: each row of YtimoebicacnihaaGreatDoorRows.lean that lists a variable, with what it lists TIED to the program's text (the seventh form; the later family's looks); each row that meets fmt, with fmt's text TOLD by the authors' own Lean function (tested against real Go, not proved from fmt's source: count such statements apart). THE CARD IS WHAT COUNTS. Prove the row's statement (the work); the ties are given (YtimoebicacnihaaGreatDoorTie.lean); close each card by the builder's one call (the guide's Derived/Test/ToyasCard.lean, 'card_holds'). Laid BY PROGRAM, IN A SANDBOX (cutbox-door.mjs). By AI agents, Wed Nov 11 2026. No macro, syntax, notation, axiom, sorry.
-/
import Derived.Test.YtimoebicacnihaaGreatDoorRows
import GoSem.ClaimSeven
namespace Go.Proofs.YtimoebicacnihaaGreatDoor
namespace Rows

/-- THE TIED CARD OF 'pillarboxlaw12.QfileParses'. -/
def qfileParsesCard : Claim7 := { stood := { row := qfileParsesRow, standIns := [], harness := (true, "f672e27d4f0ae6ac0cac973b421404fe16b8fe3ebf5b70136fd1b5c682200670"), looks := false }, kinds := [], alts := [], laidByText := true, laidKinds := [.data, .pinned], laidTests := true, laidLooks := .later }
def QfileParsesCardSaid : Prop := Claim7.holds Tryz.pinned (.plain (OpenSpec.ofChange qfileParsesSpec)) qfileParsesCard

/-- THE TIED CARD OF 'pillarboxlaw12.QfileAny'. -/
def qfileAnyCard : Claim7 := { stood := { row := qfileAnyRow, standIns := [], harness := (true, "f672e27d4f0ae6ac0cac973b421404fe16b8fe3ebf5b70136fd1b5c682200670"), looks := false }, kinds := [], alts := [], laidByText := true, laidKinds := [.data, .pinned], laidTests := true, laidLooks := .later }
def QfileAnyCardSaid : Prop := Claim7.holds Tryz.pinned (.plain (OpenSpec.ofChange qfileAnySpec)) qfileAnyCard

/-- THE TIED CARD OF 'pillarboxlaw12.QfileFates'. -/
def qfileFatesCard : Claim7 := { stood := { row := qfileFatesRow, standIns := [], harness := (true, "f672e27d4f0ae6ac0cac973b421404fe16b8fe3ebf5b70136fd1b5c682200670"), looks := false }, kinds := [], alts := [], laidByText := true, laidKinds := [.data, .pinned], laidTests := true, laidLooks := .later }
def QfileFatesCardSaid : Prop := Claim7.holds Tryz.pinned (.plain (OpenSpec.ofChange qfileFatesSpec)) qfileFatesCard

/-- THE TIED CARD OF 'pillarboxlaw12.QfileTorn'. -/
def qfileTornCard : Claim7 := { stood := { row := qfileTornRow, standIns := [], harness := (true, "f672e27d4f0ae6ac0cac973b421404fe16b8fe3ebf5b70136fd1b5c682200670"), looks := false }, kinds := [], alts := [], laidByText := true, laidKinds := [.data, .pinned], laidTests := true, laidLooks := .later }
def QfileTornCardSaid : Prop := Claim7.holds Tryz.pinned (.plain (OpenSpec.ofChange qfileTornSpec)) qfileTornCard

/-- THE TIED CARD OF 'pillarboxlaw12.QfileMore'. -/
def qfileMoreCard : Claim7 := { stood := { row := qfileMoreRow, standIns := [], harness := (true, "f672e27d4f0ae6ac0cac973b421404fe16b8fe3ebf5b70136fd1b5c682200670"), looks := false }, kinds := [], alts := [], laidByText := true, laidKinds := [.data, .pinned], laidTests := true, laidLooks := .later }
def QfileMoreCardSaid : Prop := Claim7.holds Tryz.pinned (.plain (OpenSpec.ofChange qfileMoreSpec)) qfileMoreCard

/-- THE SECOND FORM's CARD OF 'pillarboxlaw12.QfileParses'. -/
def qfileParsesUptoCard : Claim7 := { stood := { row := qfileParsesUptoRow, standIns := [], harness := (true, "f672e27d4f0ae6ac0cac973b421404fe16b8fe3ebf5b70136fd1b5c682200670"), looks := false }, kinds := [], alts := [], laidByText := true, laidKinds := [.data, .pinned], laidTests := true, laidLooks := .later }
def QfileParsesUptoCardSaid : Prop := Claim7.holds Tryz.pinned (.plain (OpenSpec.upto qfileParsesSpec)) qfileParsesUptoCard

/-- THE SECOND FORM's CARD OF 'pillarboxlaw12.QfileAny'. -/
def qfileAnyUptoCard : Claim7 := { stood := { row := qfileAnyUptoRow, standIns := [], harness := (true, "f672e27d4f0ae6ac0cac973b421404fe16b8fe3ebf5b70136fd1b5c682200670"), looks := false }, kinds := [], alts := [], laidByText := true, laidKinds := [.data, .pinned], laidTests := true, laidLooks := .later }
def QfileAnyUptoCardSaid : Prop := Claim7.holds Tryz.pinned (.plain (OpenSpec.upto qfileAnySpec)) qfileAnyUptoCard

/-- THE SECOND FORM's CARD OF 'pillarboxlaw12.QfileFates'. -/
def qfileFatesUptoCard : Claim7 := { stood := { row := qfileFatesUptoRow, standIns := [], harness := (true, "f672e27d4f0ae6ac0cac973b421404fe16b8fe3ebf5b70136fd1b5c682200670"), looks := false }, kinds := [], alts := [], laidByText := true, laidKinds := [.data, .pinned], laidTests := true, laidLooks := .later }
def QfileFatesUptoCardSaid : Prop := Claim7.holds Tryz.pinned (.plain (OpenSpec.upto qfileFatesSpec)) qfileFatesUptoCard

/-- THE SECOND FORM's CARD OF 'pillarboxlaw12.QfileTorn'. -/
def qfileTornUptoCard : Claim7 := { stood := { row := qfileTornUptoRow, standIns := [], harness := (true, "f672e27d4f0ae6ac0cac973b421404fe16b8fe3ebf5b70136fd1b5c682200670"), looks := false }, kinds := [], alts := [], laidByText := true, laidKinds := [.data, .pinned], laidTests := true, laidLooks := .later }
def QfileTornUptoCardSaid : Prop := Claim7.holds Tryz.pinned (.plain (OpenSpec.upto qfileTornSpec)) qfileTornUptoCard

/-- THE SECOND FORM's CARD OF 'pillarboxlaw12.QfileMore'. -/
def qfileMoreUptoCard : Claim7 := { stood := { row := qfileMoreUptoRow, standIns := [], harness := (true, "f672e27d4f0ae6ac0cac973b421404fe16b8fe3ebf5b70136fd1b5c682200670"), looks := false }, kinds := [], alts := [], laidByText := true, laidKinds := [.data, .pinned], laidTests := true, laidLooks := .later }
def QfileMoreUptoCardSaid : Prop := Claim7.holds Tryz.pinned (.plain (OpenSpec.upto qfileMoreSpec)) qfileMoreUptoCard
end Rows
end Go.Proofs.YtimoebicacnihaaGreatDoor
