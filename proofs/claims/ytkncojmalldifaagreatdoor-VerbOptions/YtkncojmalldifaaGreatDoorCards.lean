/-
  DERIVED. GIVEN WITH THE SEED: THE CARDS: each row of YtkncojmalldifaaGreatDoorRows.lean that lists a variable, with what it lists TIED to the program's text (the seventh form; the later family's looks); each row that meets fmt, with fmt's text TOLD by the authors' own Lean function (tested against real Go, not proved from fmt's source: count such statements apart). THE CARD IS WHAT COUNTS. Prove the row's statement (the work); the ties are given (YtkncojmalldifaaGreatDoorTie.lean); close each card by the builder's one call (the guide's Derived/Test/ToyasCard.lean, 'card_holds'). Laid BY PROGRAM, IN A SANDBOX (cutbox-door.mjs). By AI agents, Wed Nov 11 2026. No macro, syntax, notation, axiom, sorry.
-/
import Derived.Test.YtkncojmalldifaaGreatDoorRows
import GoSem.ClaimSeven
namespace Go.Proofs.YtkncojmalldifaaGreatDoor
namespace Rows

/-- THE TIED CARD OF 'pillarboxlaw07.VerbParses'. -/
def verbParsesCard : Claim7 := { stood := { row := verbParsesRow, standIns := [], harness := (true, "09e6126297f176067a4247dd7d87c387e4b9972d4246b40f032275723bb4ef63"), looks := true }, kinds := [], alts := [], laidByText := true, laidKinds := [.data, .data, .data, .data, .sentinel, .sentinel, .pinned], laidTests := true, laidLooks := .later }
def VerbParsesCardSaid : Prop := Claim7.holds Tryz.pinned (.plain (OpenSpec.ofChange verbParsesSpec)) verbParsesCard

/-- THE TIED CARD OF 'pillarboxlaw07.VerbOptions'. -/
def verbOptionsCard : Claim7 := { stood := { row := verbOptionsRow, standIns := [], harness := (true, "09e6126297f176067a4247dd7d87c387e4b9972d4246b40f032275723bb4ef63"), looks := true }, kinds := [], alts := [], laidByText := true, laidKinds := [.data, .data, .data, .data, .sentinel, .sentinel, .pinned], laidTests := true, laidLooks := .later }
def VerbOptionsCardSaid : Prop := Claim7.holds Tryz.pinned (.plain (OpenSpec.ofChange verbOptionsSpec)) verbOptionsCard

/-- THE SECOND FORM's CARD OF 'pillarboxlaw07.VerbParses'. -/
def verbParsesUptoCard : Claim7 := { stood := { row := verbParsesUptoRow, standIns := [], harness := (true, "09e6126297f176067a4247dd7d87c387e4b9972d4246b40f032275723bb4ef63"), looks := true }, kinds := [], alts := [], laidByText := true, laidKinds := [.data, .data, .data, .data, .sentinel, .sentinel, .pinned], laidTests := true, laidLooks := .later }
def VerbParsesUptoCardSaid : Prop := Claim7.holds Tryz.pinned (.plain (OpenSpec.upto verbParsesSpec)) verbParsesUptoCard

/-- THE SECOND FORM's CARD OF 'pillarboxlaw07.VerbOptions'. -/
def verbOptionsUptoCard : Claim7 := { stood := { row := verbOptionsUptoRow, standIns := [], harness := (true, "09e6126297f176067a4247dd7d87c387e4b9972d4246b40f032275723bb4ef63"), looks := true }, kinds := [], alts := [], laidByText := true, laidKinds := [.data, .data, .data, .data, .sentinel, .sentinel, .pinned], laidTests := true, laidLooks := .later }
def VerbOptionsUptoCardSaid : Prop := Claim7.holds Tryz.pinned (.plain (OpenSpec.upto verbOptionsSpec)) verbOptionsUptoCard
end Rows
end Go.Proofs.YtkncojmalldifaaGreatDoor
