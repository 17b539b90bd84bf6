/-
  DERIVED. GIVEN WITH THE SEED: THE CARDS: each row of YtcjljldknekhiaaGreatDoorRows.lean that lists a variable, with what it lists TIED to the program's text (the seventh form; the later family's looks); each row that meets fmt, with fmt's text TOLD by the authors' own Lean function (tested against real Go, not proved from fmt's source: count such statements apart). THE CARD IS WHAT COUNTS. Prove the row's statement (the work); the ties are given (YtcjljldknekhiaaGreatDoorTie.lean); close each card by the builder's one call (the guide's Derived/Test/ToyasCard.lean, 'card_holds'). Laid BY PROGRAM, IN A SANDBOX (cutbox-door.mjs). By AI agents, Wed Nov 11 2026. No macro, syntax, notation, axiom, sorry.
-/
import Derived.Test.YtcjljldknekhiaaGreatDoorRows
import GoSem.ClaimSeven
namespace Go.Proofs.YtcjljldknekhiaaGreatDoor
namespace Rows

/-- THE TIED CARD OF 'pillarboxlaw09.ServePlays'. -/
def servePlaysCard : Claim7 := { stood := { row := servePlaysRow, standIns := [], harness := (true, "a2ab41fe73dcb597d55b9ffc753f10aa4000e1ff4da1d701f8bbd371b08e0f8b"), looks := true }, kinds := [], alts := [], laidByText := true, laidKinds := [.data, .data, .data, .data, .sentinel, .sentinel, .pinned, .pinned], laidTests := true, laidLooks := .later }
def ServePlaysCardSaid : Prop := Claim7.holds Tryz.pinned (.plain (OpenSpec.ofChange servePlaysSpec)) servePlaysCard

/-- THE TIED CARD OF 'pillarboxlaw09.ServeMails'. -/
def serveMailsCard : Claim7 := { stood := { row := serveMailsRow, standIns := [], harness := (true, "a2ab41fe73dcb597d55b9ffc753f10aa4000e1ff4da1d701f8bbd371b08e0f8b"), looks := true }, kinds := [], alts := [], laidByText := true, laidKinds := [.data, .data, .data, .data, .sentinel, .sentinel, .pinned, .pinned], laidTests := true, laidLooks := .later }
def ServeMailsCardSaid : Prop := Claim7.holds Tryz.pinned (.plain (OpenSpec.ofChange serveMailsSpec)) serveMailsCard

/-- THE TIED CARD OF 'pillarboxlaw09.ServeParts'. -/
def servePartsCard : Claim7 := { stood := { row := servePartsRow, standIns := [], harness := (true, "a2ab41fe73dcb597d55b9ffc753f10aa4000e1ff4da1d701f8bbd371b08e0f8b"), looks := true }, kinds := [], alts := [], laidByText := true, laidKinds := [.data, .data, .data, .data, .sentinel, .sentinel, .pinned, .pinned], laidTests := true, laidLooks := .later }
def ServePartsCardSaid : Prop := Claim7.holds Tryz.pinned (.plain (OpenSpec.ofChange servePartsSpec)) servePartsCard

/-- THE TIED CARD OF 'pillarboxlaw09.ServeLong'. -/
def serveLongCard : Claim7 := { stood := { row := serveLongRow, standIns := [], harness := (true, "a2ab41fe73dcb597d55b9ffc753f10aa4000e1ff4da1d701f8bbd371b08e0f8b"), looks := true }, kinds := [], alts := [], laidByText := true, laidKinds := [.data, .data, .data, .data, .sentinel, .sentinel, .pinned, .pinned], laidTests := true, laidLooks := .later }
def ServeLongCardSaid : Prop := Claim7.holds Tryz.pinned (.plain (OpenSpec.ofChange serveLongSpec)) serveLongCard

/-- THE TIED CARD OF 'pillarboxlaw09.ServeNone'. -/
def serveNoneCard : Claim7 := { stood := { row := serveNoneRow, standIns := [], harness := (true, "a2ab41fe73dcb597d55b9ffc753f10aa4000e1ff4da1d701f8bbd371b08e0f8b"), looks := true }, kinds := [], alts := [], laidByText := true, laidKinds := [.data, .data, .data, .data, .sentinel, .sentinel, .pinned, .pinned], laidTests := true, laidLooks := .later }
def ServeNoneCardSaid : Prop := Claim7.holds Tryz.pinned (.plain (OpenSpec.ofChange serveNoneSpec)) serveNoneCard

/-- THE TIED CARD OF 'pillarboxlaw09.ServeResets'. -/
def serveResetsCard : Claim7 := { stood := { row := serveResetsRow, standIns := [], harness := (true, "a2ab41fe73dcb597d55b9ffc753f10aa4000e1ff4da1d701f8bbd371b08e0f8b"), looks := true }, kinds := [], alts := [], laidByText := true, laidKinds := [.data, .data, .data, .data, .sentinel, .sentinel, .pinned, .pinned], laidTests := true, laidLooks := .later }
def ServeResetsCardSaid : Prop := Claim7.holds Tryz.pinned (.plain (OpenSpec.ofChange serveResetsSpec)) serveResetsCard

/-- THE SECOND FORM's CARD OF 'pillarboxlaw09.ServePlays'. -/
def servePlaysUptoCard : Claim7 := { stood := { row := servePlaysUptoRow, standIns := [], harness := (true, "a2ab41fe73dcb597d55b9ffc753f10aa4000e1ff4da1d701f8bbd371b08e0f8b"), looks := true }, kinds := [], alts := [], laidByText := true, laidKinds := [.data, .data, .data, .data, .sentinel, .sentinel, .pinned, .pinned], laidTests := true, laidLooks := .later }
def ServePlaysUptoCardSaid : Prop := Claim7.holds Tryz.pinned (.plain (OpenSpec.upto servePlaysSpec)) servePlaysUptoCard

/-- THE SECOND FORM's CARD OF 'pillarboxlaw09.ServeMails'. -/
def serveMailsUptoCard : Claim7 := { stood := { row := serveMailsUptoRow, standIns := [], harness := (true, "a2ab41fe73dcb597d55b9ffc753f10aa4000e1ff4da1d701f8bbd371b08e0f8b"), looks := true }, kinds := [], alts := [], laidByText := true, laidKinds := [.data, .data, .data, .data, .sentinel, .sentinel, .pinned, .pinned], laidTests := true, laidLooks := .later }
def ServeMailsUptoCardSaid : Prop := Claim7.holds Tryz.pinned (.plain (OpenSpec.upto serveMailsSpec)) serveMailsUptoCard

/-- THE SECOND FORM's CARD OF 'pillarboxlaw09.ServeParts'. -/
def servePartsUptoCard : Claim7 := { stood := { row := servePartsUptoRow, standIns := [], harness := (true, "a2ab41fe73dcb597d55b9ffc753f10aa4000e1ff4da1d701f8bbd371b08e0f8b"), looks := true }, kinds := [], alts := [], laidByText := true, laidKinds := [.data, .data, .data, .data, .sentinel, .sentinel, .pinned, .pinned], laidTests := true, laidLooks := .later }
def ServePartsUptoCardSaid : Prop := Claim7.holds Tryz.pinned (.plain (OpenSpec.upto servePartsSpec)) servePartsUptoCard

/-- THE SECOND FORM's CARD OF 'pillarboxlaw09.ServeLong'. -/
def serveLongUptoCard : Claim7 := { stood := { row := serveLongUptoRow, standIns := [], harness := (true, "a2ab41fe73dcb597d55b9ffc753f10aa4000e1ff4da1d701f8bbd371b08e0f8b"), looks := true }, kinds := [], alts := [], laidByText := true, laidKinds := [.data, .data, .data, .data, .sentinel, .sentinel, .pinned, .pinned], laidTests := true, laidLooks := .later }
def ServeLongUptoCardSaid : Prop := Claim7.holds Tryz.pinned (.plain (OpenSpec.upto serveLongSpec)) serveLongUptoCard

/-- THE SECOND FORM's CARD OF 'pillarboxlaw09.ServeNone'. -/
def serveNoneUptoCard : Claim7 := { stood := { row := serveNoneUptoRow, standIns := [], harness := (true, "a2ab41fe73dcb597d55b9ffc753f10aa4000e1ff4da1d701f8bbd371b08e0f8b"), looks := true }, kinds := [], alts := [], laidByText := true, laidKinds := [.data, .data, .data, .data, .sentinel, .sentinel, .pinned, .pinned], laidTests := true, laidLooks := .later }
def ServeNoneUptoCardSaid : Prop := Claim7.holds Tryz.pinned (.plain (OpenSpec.upto serveNoneSpec)) serveNoneUptoCard

/-- THE SECOND FORM's CARD OF 'pillarboxlaw09.ServeResets'. -/
def serveResetsUptoCard : Claim7 := { stood := { row := serveResetsUptoRow, standIns := [], harness := (true, "a2ab41fe73dcb597d55b9ffc753f10aa4000e1ff4da1d701f8bbd371b08e0f8b"), looks := true }, kinds := [], alts := [], laidByText := true, laidKinds := [.data, .data, .data, .data, .sentinel, .sentinel, .pinned, .pinned], laidTests := true, laidLooks := .later }
def ServeResetsUptoCardSaid : Prop := Claim7.holds Tryz.pinned (.plain (OpenSpec.upto serveResetsSpec)) serveResetsUptoCard
end Rows
end Go.Proofs.YtcjljldknekhiaaGreatDoor
