/-
  DERIVED. GIVEN WITH THE SEED: THE CARDS: each row of YtkncojmalldifaaDoorRows.lean that lists a variable, with what it lists TIED to the program's text (the seventh form; the later family's looks); each row that meets fmt, with fmt's text TOLD by the authors' own Lean function (tested against real Go, not proved from fmt's source: count such statements apart). THE CARD IS WHAT COUNTS. Prove the row's statement (the work); the ties are given (YtkncojmalldifaaDoorTie.lean); close each card by the builder's one call (the guide's Derived/Test/ToyasCard.lean, 'card_holds'). Laid BY PROGRAM, IN A SANDBOX (cutbox-door.mjs). By AI agents, Wed Nov 11 2026. No macro, syntax, notation, axiom, sorry.
-/
import Derived.Test.YtkncojmalldifaaDoorRows
import GoSem.ClaimSeven
namespace Go.Proofs.YtkncojmalldifaaDoor
namespace Rows

/-- THE TIED CARD OF 'pillarboxlaw07.VerbCases'. -/
def verbCasesCard : Claim7 := { stood := { row := verbCasesRow, standIns := [], harness := (true, "8621948532a6be9d7098458d1e2a3762d79f50b49703b221d659aad74a823649"), looks := true }, kinds := [], alts := [], laidByText := true, laidKinds := [.data, .data, .data, .data, .sentinel, .sentinel, .pinned], laidTests := true, laidLooks := .later }
def VerbCasesCardSaid : Prop := Claim7.holds Tryd.pinned (.plain (OpenSpec.ofChange verbCasesSpec)) verbCasesCard

/-- THE TIED CARD OF 'pillarboxlaw07.VerbNames'. -/
def verbNamesCard : Claim7 := { stood := { row := verbNamesRow, standIns := [], harness := (true, "8621948532a6be9d7098458d1e2a3762d79f50b49703b221d659aad74a823649"), looks := true }, kinds := [], alts := [], laidByText := true, laidKinds := [.data, .data, .data, .data, .sentinel, .sentinel, .pinned], laidTests := true, laidLooks := .later }
def VerbNamesCardSaid : Prop := Claim7.holds Tryd.pinned (.plain (OpenSpec.ofChange verbNamesSpec)) verbNamesCard

/-- THE SECOND FORM's CARD OF 'pillarboxlaw07.VerbCases'. -/
def verbCasesUptoCard : Claim7 := { stood := { row := verbCasesUptoRow, standIns := [], harness := (true, "8621948532a6be9d7098458d1e2a3762d79f50b49703b221d659aad74a823649"), looks := true }, kinds := [], alts := [], laidByText := true, laidKinds := [.data, .data, .data, .data, .sentinel, .sentinel, .pinned], laidTests := true, laidLooks := .later }
def VerbCasesUptoCardSaid : Prop := Claim7.holds Tryd.pinned (.plain (OpenSpec.upto verbCasesSpec)) verbCasesUptoCard

/-- THE SECOND FORM's CARD OF 'pillarboxlaw07.VerbNames'. -/
def verbNamesUptoCard : Claim7 := { stood := { row := verbNamesUptoRow, standIns := [], harness := (true, "8621948532a6be9d7098458d1e2a3762d79f50b49703b221d659aad74a823649"), looks := true }, kinds := [], alts := [], laidByText := true, laidKinds := [.data, .data, .data, .data, .sentinel, .sentinel, .pinned], laidTests := true, laidLooks := .later }
def VerbNamesUptoCardSaid : Prop := Claim7.holds Tryd.pinned (.plain (OpenSpec.upto verbNamesSpec)) verbNamesUptoCard
end Rows
end Go.Proofs.YtkncojmalldifaaDoor
