/-
  DERIVED. GIVEN WITH THE SEED: THE CARDS: each row of YtefnkjajjidfaaaDoorRows.lean that lists a variable, with what it lists TIED to the program's text (the seventh form; the later family's looks); each row that meets fmt, with fmt's text TOLD by the authors' own Lean function (tested against real Go, not proved from fmt's source: count such statements apart). THE CARD IS WHAT COUNTS. Prove the row's statement (the work); the ties are given (YtefnkjajjidfaaaDoorTie.lean); close each card by the builder's one call (the guide's Derived/Test/ToyasCard.lean, 'card_holds'). Laid BY PROGRAM, IN A SANDBOX (cutbox-door.mjs). By AI agents, Wed Nov 11 2026. No macro, syntax, notation, axiom, sorry.
-/
import Derived.Test.YtefnkjajjidfaaaDoorRows
import GoSem.ClaimSeven
namespace Go.Proofs.YtefnkjajjidfaaaDoor
namespace Rows

/-- THE TIED CARD OF 'wicketlaw10.ScanNewest'. -/
def scanNewestCard : Claim7 := { stood := { row := scanNewestRow, standIns := [], harness := (true, "e2c10627969d1aab98a395c37b7e5d258e5c0f3dcbfc2e0665b6531dacdfb244"), looks := false }, kinds := [], alts := [], laidByText := true, laidKinds := [.data, .data], laidTests := true, laidLooks := .later }
def ScanNewestCardSaid : Prop := Claim7.holds Tryd.pinned (.plain (OpenSpec.ofChange scanNewestSpec)) scanNewestCard

/-- THE TIED CARD OF 'wicketlaw10.ScanCut'. -/
def scanCutCard : Claim7 := { stood := { row := scanCutRow, standIns := [], harness := (true, "e2c10627969d1aab98a395c37b7e5d258e5c0f3dcbfc2e0665b6531dacdfb244"), looks := false }, kinds := [], alts := [], laidByText := true, laidKinds := [.data, .data], laidTests := true, laidLooks := .later }
def ScanCutCardSaid : Prop := Claim7.holds Tryd.pinned (.plain (OpenSpec.ofChange scanCutSpec)) scanCutCard

/-- THE TIED CARD OF 'wicketlaw10.ScanRest'. -/
def scanRestCard : Claim7 := { stood := { row := scanRestRow, standIns := [], harness := (true, "e2c10627969d1aab98a395c37b7e5d258e5c0f3dcbfc2e0665b6531dacdfb244"), looks := false }, kinds := [], alts := [], laidByText := true, laidKinds := [.data, .data], laidTests := true, laidLooks := .later }
def ScanRestCardSaid : Prop := Claim7.holds Tryd.pinned (.plain (OpenSpec.ofChange scanRestSpec)) scanRestCard

/-- THE TIED CARD OF 'wicketlaw10.ScanFinds'. -/
def scanFindsCard : Claim7 := { stood := { row := scanFindsRow, standIns := [], harness := (true, "e2c10627969d1aab98a395c37b7e5d258e5c0f3dcbfc2e0665b6531dacdfb244"), looks := false }, kinds := [], alts := [], laidByText := true, laidKinds := [.data, .data], laidTests := true, laidLooks := .later }
def ScanFindsCardSaid : Prop := Claim7.holds Tryd.pinned (.plain (OpenSpec.ofChange scanFindsSpec)) scanFindsCard

/-- THE SECOND FORM's CARD OF 'wicketlaw10.ScanNewest'. -/
def scanNewestUptoCard : Claim7 := { stood := { row := scanNewestUptoRow, standIns := [], harness := (true, "e2c10627969d1aab98a395c37b7e5d258e5c0f3dcbfc2e0665b6531dacdfb244"), looks := false }, kinds := [], alts := [], laidByText := true, laidKinds := [.data, .data], laidTests := true, laidLooks := .later }
def ScanNewestUptoCardSaid : Prop := Claim7.holds Tryd.pinned (.plain (OpenSpec.upto scanNewestSpec)) scanNewestUptoCard

/-- THE SECOND FORM's CARD OF 'wicketlaw10.ScanCut'. -/
def scanCutUptoCard : Claim7 := { stood := { row := scanCutUptoRow, standIns := [], harness := (true, "e2c10627969d1aab98a395c37b7e5d258e5c0f3dcbfc2e0665b6531dacdfb244"), looks := false }, kinds := [], alts := [], laidByText := true, laidKinds := [.data, .data], laidTests := true, laidLooks := .later }
def ScanCutUptoCardSaid : Prop := Claim7.holds Tryd.pinned (.plain (OpenSpec.upto scanCutSpec)) scanCutUptoCard

/-- THE SECOND FORM's CARD OF 'wicketlaw10.ScanRest'. -/
def scanRestUptoCard : Claim7 := { stood := { row := scanRestUptoRow, standIns := [], harness := (true, "e2c10627969d1aab98a395c37b7e5d258e5c0f3dcbfc2e0665b6531dacdfb244"), looks := false }, kinds := [], alts := [], laidByText := true, laidKinds := [.data, .data], laidTests := true, laidLooks := .later }
def ScanRestUptoCardSaid : Prop := Claim7.holds Tryd.pinned (.plain (OpenSpec.upto scanRestSpec)) scanRestUptoCard

/-- THE SECOND FORM's CARD OF 'wicketlaw10.ScanFinds'. -/
def scanFindsUptoCard : Claim7 := { stood := { row := scanFindsUptoRow, standIns := [], harness := (true, "e2c10627969d1aab98a395c37b7e5d258e5c0f3dcbfc2e0665b6531dacdfb244"), looks := false }, kinds := [], alts := [], laidByText := true, laidKinds := [.data, .data], laidTests := true, laidLooks := .later }
def ScanFindsUptoCardSaid : Prop := Claim7.holds Tryd.pinned (.plain (OpenSpec.upto scanFindsSpec)) scanFindsUptoCard
end Rows
end Go.Proofs.YtefnkjajjidfaaaDoor
