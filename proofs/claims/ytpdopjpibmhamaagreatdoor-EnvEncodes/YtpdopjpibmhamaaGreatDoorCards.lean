/-
  DERIVED. GIVEN WITH THE SEED: THE CARDS: each row of YtpdopjpibmhamaaGreatDoorRows.lean that lists a variable, with what it lists TIED to the program's text (the seventh form; the later family's looks); each row that meets fmt, with fmt's text TOLD by the authors' own Lean function (tested against real Go, not proved from fmt's source: count such statements apart). THE CARD IS WHAT COUNTS. Prove the row's statement (the work); the ties are given (YtpdopjpibmhamaaGreatDoorTie.lean); close each card by the builder's one call (the guide's Derived/Test/ToyasCard.lean, 'card_holds'). Laid BY PROGRAM, IN A SANDBOX (cutbox-door.mjs). By AI agents, Wed Nov 11 2026. No macro, syntax, notation, axiom, sorry.
-/
import Derived.Test.YtpdopjpibmhamaaGreatDoorRows
import GoSem.ClaimSeven
namespace Go.Proofs.YtpdopjpibmhamaaGreatDoor
namespace Rows

/-- THE TIED CARD OF 'pillarboxlaw10.EnvEncodes'. -/
def envEncodesCard : Claim7 := { stood := { row := envEncodesRow, standIns := [], harness := (true, "5efa1f24f7406bba68c656e243d76d2b1c1a43f9063ceea2f279f969c81fa818"), looks := false }, kinds := [], alts := [], laidByText := true, laidKinds := [.data, .pinned], laidTests := true, laidLooks := .later }
def EnvEncodesCardSaid : Prop := Claim7.holds Tryz.pinned (.plain (OpenSpec.ofChange envEncodesSpec)) envEncodesCard

/-- THE TIED CARD OF 'pillarboxlaw10.EnvDecodes'. -/
def envDecodesCard : Claim7 := { stood := { row := envDecodesRow, standIns := [], harness := (true, "5efa1f24f7406bba68c656e243d76d2b1c1a43f9063ceea2f279f969c81fa818"), looks := false }, kinds := [], alts := [], laidByText := true, laidKinds := [.data, .pinned], laidTests := true, laidLooks := .later }
def EnvDecodesCardSaid : Prop := Claim7.holds Tryz.pinned (.plain (OpenSpec.ofChange envDecodesSpec)) envDecodesCard

/-- THE TIED CARD OF 'pillarboxlaw10.EnvCut'. -/
def envCutCard : Claim7 := { stood := { row := envCutRow, standIns := [], harness := (true, "5efa1f24f7406bba68c656e243d76d2b1c1a43f9063ceea2f279f969c81fa818"), looks := false }, kinds := [], alts := [], laidByText := true, laidKinds := [.data, .pinned], laidTests := true, laidLooks := .later }
def EnvCutCardSaid : Prop := Claim7.holds Tryz.pinned (.plain (OpenSpec.ofChange envCutSpec)) envCutCard

/-- THE TIED CARD OF 'pillarboxlaw10.EnvOwn'. -/
def envOwnCard : Claim7 := { stood := { row := envOwnRow, standIns := [], harness := (true, "5efa1f24f7406bba68c656e243d76d2b1c1a43f9063ceea2f279f969c81fa818"), looks := false }, kinds := [], alts := [], laidByText := true, laidKinds := [.data, .pinned], laidTests := true, laidLooks := .later }
def EnvOwnCardSaid : Prop := Claim7.holds Tryz.pinned (.plain (OpenSpec.ofChange envOwnSpec)) envOwnCard

/-- THE SECOND FORM's CARD OF 'pillarboxlaw10.EnvEncodes'. -/
def envEncodesUptoCard : Claim7 := { stood := { row := envEncodesUptoRow, standIns := [], harness := (true, "5efa1f24f7406bba68c656e243d76d2b1c1a43f9063ceea2f279f969c81fa818"), looks := false }, kinds := [], alts := [], laidByText := true, laidKinds := [.data, .pinned], laidTests := true, laidLooks := .later }
def EnvEncodesUptoCardSaid : Prop := Claim7.holds Tryz.pinned (.plain (OpenSpec.upto envEncodesSpec)) envEncodesUptoCard

/-- THE SECOND FORM's CARD OF 'pillarboxlaw10.EnvDecodes'. -/
def envDecodesUptoCard : Claim7 := { stood := { row := envDecodesUptoRow, standIns := [], harness := (true, "5efa1f24f7406bba68c656e243d76d2b1c1a43f9063ceea2f279f969c81fa818"), looks := false }, kinds := [], alts := [], laidByText := true, laidKinds := [.data, .pinned], laidTests := true, laidLooks := .later }
def EnvDecodesUptoCardSaid : Prop := Claim7.holds Tryz.pinned (.plain (OpenSpec.upto envDecodesSpec)) envDecodesUptoCard

/-- THE SECOND FORM's CARD OF 'pillarboxlaw10.EnvCut'. -/
def envCutUptoCard : Claim7 := { stood := { row := envCutUptoRow, standIns := [], harness := (true, "5efa1f24f7406bba68c656e243d76d2b1c1a43f9063ceea2f279f969c81fa818"), looks := false }, kinds := [], alts := [], laidByText := true, laidKinds := [.data, .pinned], laidTests := true, laidLooks := .later }
def EnvCutUptoCardSaid : Prop := Claim7.holds Tryz.pinned (.plain (OpenSpec.upto envCutSpec)) envCutUptoCard

/-- THE SECOND FORM's CARD OF 'pillarboxlaw10.EnvOwn'. -/
def envOwnUptoCard : Claim7 := { stood := { row := envOwnUptoRow, standIns := [], harness := (true, "5efa1f24f7406bba68c656e243d76d2b1c1a43f9063ceea2f279f969c81fa818"), looks := false }, kinds := [], alts := [], laidByText := true, laidKinds := [.data, .pinned], laidTests := true, laidLooks := .later }
def EnvOwnUptoCardSaid : Prop := Claim7.holds Tryz.pinned (.plain (OpenSpec.upto envOwnSpec)) envOwnUptoCard
end Rows
end Go.Proofs.YtpdopjpibmhamaaGreatDoor
