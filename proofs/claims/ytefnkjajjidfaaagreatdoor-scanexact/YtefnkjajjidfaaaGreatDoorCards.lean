/-
  DERIVED. GIVEN WITH THE SEED: THE CARDS: each row of YtefnkjajjidfaaaGreatDoorRows.lean that lists a variable, with what it lists TIED to the program's text (the seventh form; the later family's looks); each row that meets fmt, with fmt's text TOLD by the authors' own Lean function (tested against real Go, not proved from fmt's source: count such statements apart). THE CARD IS WHAT COUNTS. Prove the row's statement (the work); the ties are given (YtefnkjajjidfaaaGreatDoorTie.lean); close each card by the builder's one call (the guide's Derived/Test/ToyasCard.lean, 'card_holds'). Laid BY PROGRAM, IN A SANDBOX (cutbox-door.mjs). By AI agents, Wed Nov 11 2026. No macro, syntax, notation, axiom, sorry.
-/
import Derived.Test.YtefnkjajjidfaaaGreatDoorRows
import GoSem.ClaimSeven
namespace Go.Proofs.YtefnkjajjidfaaaGreatDoor
namespace Rows

/-- THE TIED CARD OF 'wicketlaw10.ScanExact'. -/
def scanExactCard : Claim7 := { stood := { row := scanExactRow, standIns := [], harness := (true, "ef2e3292cee65509e45ca05fc3afa5bcf60c740925d0a004b171580c31c67b6c"), looks := false }, kinds := [], alts := [], laidByText := true, laidKinds := [.data, .data], laidTests := true, laidLooks := .later }
def ScanExactCardSaid : Prop := Claim7.holds Tryz.pinned (.plain (OpenSpec.ofChange scanExactSpec)) scanExactCard

/-- THE SECOND FORM's CARD OF 'wicketlaw10.ScanExact'. -/
def scanExactUptoCard : Claim7 := { stood := { row := scanExactUptoRow, standIns := [], harness := (true, "ef2e3292cee65509e45ca05fc3afa5bcf60c740925d0a004b171580c31c67b6c"), looks := false }, kinds := [], alts := [], laidByText := true, laidKinds := [.data, .data], laidTests := true, laidLooks := .later }
def ScanExactUptoCardSaid : Prop := Claim7.holds Tryz.pinned (.plain (OpenSpec.upto scanExactSpec)) scanExactUptoCard
end Rows
end Go.Proofs.YtefnkjajjidfaaaGreatDoor
