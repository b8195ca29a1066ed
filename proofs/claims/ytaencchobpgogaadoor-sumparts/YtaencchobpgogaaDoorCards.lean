/-
  DERIVED. GIVEN WITH THE SEED: THE CARDS: each row of YtaencchobpgogaaDoorRows.lean that lists a variable, with what it lists TIED to the program's text (the seventh form; the later family's looks); each row that meets fmt, with fmt's text TOLD by the authors' own Lean function (tested against real Go, not proved from fmt's source: count such statements apart). THE CARD IS WHAT COUNTS. Prove the row's statement (the work); the ties are given (YtaencchobpgogaaDoorTie.lean); close each card by the builder's one call (the guide's Derived/Test/ToyasCard.lean, 'card_holds'). Laid BY PROGRAM, IN A SANDBOX (cutbox-door.mjs). By AI agents, Wed Nov 11 2026. No macro, syntax, notation, axiom, sorry.
-/
import Derived.Test.YtaencchobpgogaaDoorRows
import GoSem.ClaimSeven
namespace Go.Proofs.YtaencchobpgogaaDoor
namespace Rows

/-- THE TIED CARD OF 'wicketlaw02.SumNames'. -/
def sumNamesCard : Claim7 := { stood := { row := sumNamesRow, standIns := [], harness := (true, "baf12965f7c7e61967022419318e9aeb943c2b5f227f0de74a27f0e0a39d4fbf"), looks := false }, kinds := [], alts := [], laidByText := true, laidKinds := [.data], laidTests := true, laidLooks := .later }
def SumNamesCardSaid : Prop := Claim7.holds Tryd.pinned (.plain (OpenSpec.ofChange sumNamesSpec)) sumNamesCard

/-- THE TIED CARD OF 'wicketlaw02.SumTexts'. -/
def sumTextsCard : Claim7 := { stood := { row := sumTextsRow, standIns := [], harness := (true, "baf12965f7c7e61967022419318e9aeb943c2b5f227f0de74a27f0e0a39d4fbf"), looks := false }, kinds := [], alts := [], laidByText := true, laidKinds := [.data], laidTests := true, laidLooks := .later }
def SumTextsCardSaid : Prop := Claim7.holds Tryd.pinned (.plain (OpenSpec.ofChange sumTextsSpec)) sumTextsCard

/-- THE TIED CARD OF 'wicketlaw02.SumTurns'. -/
def sumTurnsCard : Claim7 := { stood := { row := sumTurnsRow, standIns := [], harness := (true, "baf12965f7c7e61967022419318e9aeb943c2b5f227f0de74a27f0e0a39d4fbf"), looks := false }, kinds := [], alts := [], laidByText := true, laidKinds := [.data], laidTests := true, laidLooks := .later }
def SumTurnsCardSaid : Prop := Claim7.holds Tryd.pinned (.plain (OpenSpec.ofChange sumTurnsSpec)) sumTurnsCard

/-- THE TIED CARD OF 'wicketlaw02.SumBursts'. -/
def sumBurstsCard : Claim7 := { stood := { row := sumBurstsRow, standIns := [], harness := (true, "baf12965f7c7e61967022419318e9aeb943c2b5f227f0de74a27f0e0a39d4fbf"), looks := false }, kinds := [], alts := [], laidByText := true, laidKinds := [.data], laidTests := true, laidLooks := .later }
def SumBurstsCardSaid : Prop := Claim7.holds Tryd.pinned (.plain (OpenSpec.ofChange sumBurstsSpec)) sumBurstsCard

/-- THE TIED CARD OF 'wicketlaw02.SumParts'. -/
def sumPartsCard : Claim7 := { stood := { row := sumPartsRow, standIns := [], harness := (true, "baf12965f7c7e61967022419318e9aeb943c2b5f227f0de74a27f0e0a39d4fbf"), looks := false }, kinds := [], alts := [], laidByText := true, laidKinds := [.data], laidTests := true, laidLooks := .later }
def SumPartsCardSaid : Prop := Claim7.holds Tryd.pinned (.plain (OpenSpec.ofChange sumPartsSpec)) sumPartsCard

/-- THE TIED CARD OF 'wicketlaw02.SumJoins'. -/
def sumJoinsCard : Claim7 := { stood := { row := sumJoinsRow, standIns := [], harness := (true, "baf12965f7c7e61967022419318e9aeb943c2b5f227f0de74a27f0e0a39d4fbf"), looks := false }, kinds := [], alts := [], laidByText := true, laidKinds := [.data], laidTests := true, laidLooks := .later }
def SumJoinsCardSaid : Prop := Claim7.holds Tryd.pinned (.plain (OpenSpec.ofChange sumJoinsSpec)) sumJoinsCard

/-- THE SECOND FORM's CARD OF 'wicketlaw02.SumNames'. -/
def sumNamesUptoCard : Claim7 := { stood := { row := sumNamesUptoRow, standIns := [], harness := (true, "baf12965f7c7e61967022419318e9aeb943c2b5f227f0de74a27f0e0a39d4fbf"), looks := false }, kinds := [], alts := [], laidByText := true, laidKinds := [.data], laidTests := true, laidLooks := .later }
def SumNamesUptoCardSaid : Prop := Claim7.holds Tryd.pinned (.plain (OpenSpec.upto sumNamesSpec)) sumNamesUptoCard

/-- THE SECOND FORM's CARD OF 'wicketlaw02.SumTexts'. -/
def sumTextsUptoCard : Claim7 := { stood := { row := sumTextsUptoRow, standIns := [], harness := (true, "baf12965f7c7e61967022419318e9aeb943c2b5f227f0de74a27f0e0a39d4fbf"), looks := false }, kinds := [], alts := [], laidByText := true, laidKinds := [.data], laidTests := true, laidLooks := .later }
def SumTextsUptoCardSaid : Prop := Claim7.holds Tryd.pinned (.plain (OpenSpec.upto sumTextsSpec)) sumTextsUptoCard

/-- THE SECOND FORM's CARD OF 'wicketlaw02.SumTurns'. -/
def sumTurnsUptoCard : Claim7 := { stood := { row := sumTurnsUptoRow, standIns := [], harness := (true, "baf12965f7c7e61967022419318e9aeb943c2b5f227f0de74a27f0e0a39d4fbf"), looks := false }, kinds := [], alts := [], laidByText := true, laidKinds := [.data], laidTests := true, laidLooks := .later }
def SumTurnsUptoCardSaid : Prop := Claim7.holds Tryd.pinned (.plain (OpenSpec.upto sumTurnsSpec)) sumTurnsUptoCard

/-- THE SECOND FORM's CARD OF 'wicketlaw02.SumBursts'. -/
def sumBurstsUptoCard : Claim7 := { stood := { row := sumBurstsUptoRow, standIns := [], harness := (true, "baf12965f7c7e61967022419318e9aeb943c2b5f227f0de74a27f0e0a39d4fbf"), looks := false }, kinds := [], alts := [], laidByText := true, laidKinds := [.data], laidTests := true, laidLooks := .later }
def SumBurstsUptoCardSaid : Prop := Claim7.holds Tryd.pinned (.plain (OpenSpec.upto sumBurstsSpec)) sumBurstsUptoCard

/-- THE SECOND FORM's CARD OF 'wicketlaw02.SumParts'. -/
def sumPartsUptoCard : Claim7 := { stood := { row := sumPartsUptoRow, standIns := [], harness := (true, "baf12965f7c7e61967022419318e9aeb943c2b5f227f0de74a27f0e0a39d4fbf"), looks := false }, kinds := [], alts := [], laidByText := true, laidKinds := [.data], laidTests := true, laidLooks := .later }
def SumPartsUptoCardSaid : Prop := Claim7.holds Tryd.pinned (.plain (OpenSpec.upto sumPartsSpec)) sumPartsUptoCard

/-- THE SECOND FORM's CARD OF 'wicketlaw02.SumJoins'. -/
def sumJoinsUptoCard : Claim7 := { stood := { row := sumJoinsUptoRow, standIns := [], harness := (true, "baf12965f7c7e61967022419318e9aeb943c2b5f227f0de74a27f0e0a39d4fbf"), looks := false }, kinds := [], alts := [], laidByText := true, laidKinds := [.data], laidTests := true, laidLooks := .later }
def SumJoinsUptoCardSaid : Prop := Claim7.holds Tryd.pinned (.plain (OpenSpec.upto sumJoinsSpec)) sumJoinsUptoCard
end Rows
end Go.Proofs.YtaencchobpgogaaDoor
