/-
  DERIVED. GIVEN WITH THE SEED: THE CARDS: each row of YtdadpepfpiimgaaGreatDoorRows.lean that lists a variable, with what it lists TIED to the program's text (the seventh form; the later family's looks); each row that meets fmt, with fmt's text TOLD by the authors' own Lean function (tested against real Go, not proved from fmt's source: count such statements apart). THE CARD IS WHAT COUNTS. Prove the row's statement (the work); the ties are given (YtdadpepfpiimgaaGreatDoorTie.lean); close each card by the builder's one call (the guide's Derived/Test/ToyasCard.lean, 'card_holds'). Laid BY PROGRAM, IN A SANDBOX (cutbox-door.mjs). By AI agents, Wed Nov 11 2026. No macro, syntax, notation, axiom, sorry.
-/
import Derived.Test.YtdadpepfpiimgaaGreatDoorRows
import GoSem.ClaimSeven
namespace Go.Proofs.YtdadpepfpiimgaaGreatDoor
namespace Rows

/-- THE TIED CARD OF 'wicketlaw21.RedoAny'. -/
def redoAnyCard : Claim7 := { stood := { row := redoAnyRow, standIns := [], harness := (true, "eefb3f16985c4f04ea07c0526b4af70bb85cb38900409fa58f5bf8992e98729d"), looks := false }, kinds := [], alts := [], laidByText := true, laidKinds := [.data, .data], laidTests := true, laidLooks := .later }
def RedoAnyCardSaid : Prop := Claim7.holds Tryz.pinned (.plain (OpenSpec.ofChange redoAnySpec)) redoAnyCard

/-- THE TIED CARD OF 'wicketlaw21.RedoRuns'. -/
def redoRunsCard : Claim7 := { stood := { row := redoRunsRow, standIns := [], harness := (true, "eefb3f16985c4f04ea07c0526b4af70bb85cb38900409fa58f5bf8992e98729d"), looks := false }, kinds := [], alts := [], laidByText := true, laidKinds := [.data, .data], laidTests := true, laidLooks := .later }
def RedoRunsCardSaid : Prop := Claim7.holds Tryz.pinned (.plain (OpenSpec.ofChange redoRunsSpec)) redoRunsCard

/-- THE TIED CARD OF 'wicketlaw21.RedoPlays'. -/
def redoPlaysCard : Claim7 := { stood := { row := redoPlaysRow, standIns := [], harness := (true, "eefb3f16985c4f04ea07c0526b4af70bb85cb38900409fa58f5bf8992e98729d"), looks := false }, kinds := [], alts := [], laidByText := true, laidKinds := [.data, .data], laidTests := true, laidLooks := .later }
def RedoPlaysCardSaid : Prop := Claim7.holds Tryz.pinned (.plain (OpenSpec.ofChange redoPlaysSpec)) redoPlaysCard

/-- THE SECOND FORM's CARD OF 'wicketlaw21.RedoAny'. -/
def redoAnyUptoCard : Claim7 := { stood := { row := redoAnyUptoRow, standIns := [], harness := (true, "eefb3f16985c4f04ea07c0526b4af70bb85cb38900409fa58f5bf8992e98729d"), looks := false }, kinds := [], alts := [], laidByText := true, laidKinds := [.data, .data], laidTests := true, laidLooks := .later }
def RedoAnyUptoCardSaid : Prop := Claim7.holds Tryz.pinned (.plain (OpenSpec.upto redoAnySpec)) redoAnyUptoCard

/-- THE SECOND FORM's CARD OF 'wicketlaw21.RedoRuns'. -/
def redoRunsUptoCard : Claim7 := { stood := { row := redoRunsUptoRow, standIns := [], harness := (true, "eefb3f16985c4f04ea07c0526b4af70bb85cb38900409fa58f5bf8992e98729d"), looks := false }, kinds := [], alts := [], laidByText := true, laidKinds := [.data, .data], laidTests := true, laidLooks := .later }
def RedoRunsUptoCardSaid : Prop := Claim7.holds Tryz.pinned (.plain (OpenSpec.upto redoRunsSpec)) redoRunsUptoCard

/-- THE SECOND FORM's CARD OF 'wicketlaw21.RedoPlays'. -/
def redoPlaysUptoCard : Claim7 := { stood := { row := redoPlaysUptoRow, standIns := [], harness := (true, "eefb3f16985c4f04ea07c0526b4af70bb85cb38900409fa58f5bf8992e98729d"), looks := false }, kinds := [], alts := [], laidByText := true, laidKinds := [.data, .data], laidTests := true, laidLooks := .later }
def RedoPlaysUptoCardSaid : Prop := Claim7.holds Tryz.pinned (.plain (OpenSpec.upto redoPlaysSpec)) redoPlaysUptoCard
end Rows
end Go.Proofs.YtdadpepfpiimgaaGreatDoor
