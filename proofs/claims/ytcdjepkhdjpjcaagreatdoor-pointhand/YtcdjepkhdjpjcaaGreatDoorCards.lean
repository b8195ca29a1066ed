/-
  DERIVED. GIVEN WITH THE SEED: THE CARDS: each row of YtcdjepkhdjpjcaaGreatDoorRows.lean that lists a variable, with what it lists TIED to the program's text (the seventh form; the later family's looks); each row that meets fmt, with fmt's text TOLD by the authors' own Lean function (tested against real Go, not proved from fmt's source: count such statements apart). THE CARD IS WHAT COUNTS. Prove the row's statement (the work); the ties are given (YtcdjepkhdjpjcaaGreatDoorTie.lean); close each card by the builder's one call (the guide's Derived/Test/ToyasCard.lean, 'card_holds'). Laid BY PROGRAM, IN A SANDBOX (cutbox-door.mjs). By AI agents, Wed Nov 11 2026. No macro, syntax, notation, axiom, sorry.
-/
import Derived.Test.YtcdjepkhdjpjcaaGreatDoorRows
import GoSem.ClaimSeven
namespace Go.Proofs.YtcdjepkhdjpjcaaGreatDoor
namespace Rows

/-- THE TIED CARD OF 'wicketlaw20.PointKeeps'. -/
def pointKeepsCard : Claim7 := { stood := { row := pointKeepsRow, standIns := [], harness := (true, "4cecbd6a23d0475acae70b9b4718c3070a437b4a5975e761881664620fcb77a6"), looks := false }, kinds := [], alts := [], laidByText := true, laidKinds := [.data, .data], laidTests := true, laidLooks := .later }
def PointKeepsCardSaid : Prop := Claim7.holds Tryz.pinned (.plain (OpenSpec.ofChange pointKeepsSpec)) pointKeepsCard

/-- THE TIED CARD OF 'wicketlaw20.PointRound'. -/
def pointRoundCard : Claim7 := { stood := { row := pointRoundRow, standIns := [], harness := (true, "4cecbd6a23d0475acae70b9b4718c3070a437b4a5975e761881664620fcb77a6"), looks := false }, kinds := [], alts := [], laidByText := true, laidKinds := [.data, .data], laidTests := true, laidLooks := .later }
def PointRoundCardSaid : Prop := Claim7.holds Tryz.pinned (.plain (OpenSpec.ofChange pointRoundSpec)) pointRoundCard

/-- THE TIED CARD OF 'wicketlaw20.PointNames'. -/
def pointNamesCard : Claim7 := { stood := { row := pointNamesRow, standIns := [], harness := (true, "4cecbd6a23d0475acae70b9b4718c3070a437b4a5975e761881664620fcb77a6"), looks := false }, kinds := [], alts := [], laidByText := true, laidKinds := [.data, .data], laidTests := true, laidLooks := .later }
def PointNamesCardSaid : Prop := Claim7.holds Tryz.pinned (.plain (OpenSpec.ofChange pointNamesSpec)) pointNamesCard

/-- THE TIED CARD OF 'wicketlaw20.PointPlays'. -/
def pointPlaysCard : Claim7 := { stood := { row := pointPlaysRow, standIns := [], harness := (true, "4cecbd6a23d0475acae70b9b4718c3070a437b4a5975e761881664620fcb77a6"), looks := false }, kinds := [], alts := [], laidByText := true, laidKinds := [.data, .data], laidTests := true, laidLooks := .later }
def PointPlaysCardSaid : Prop := Claim7.holds Tryz.pinned (.plain (OpenSpec.ofChange pointPlaysSpec)) pointPlaysCard

/-- THE TIED CARD OF 'wicketlaw20.PointHand'. -/
def pointHandCard : Claim7 := { stood := { row := pointHandRow, standIns := [], harness := (true, "4cecbd6a23d0475acae70b9b4718c3070a437b4a5975e761881664620fcb77a6"), looks := false }, kinds := [], alts := [], laidByText := true, laidKinds := [.data, .data], laidTests := true, laidLooks := .later }
def PointHandCardSaid : Prop := Claim7.holds Tryz.pinned (.plain (OpenSpec.ofChange pointHandSpec)) pointHandCard

/-- THE SECOND FORM's CARD OF 'wicketlaw20.PointKeeps'. -/
def pointKeepsUptoCard : Claim7 := { stood := { row := pointKeepsUptoRow, standIns := [], harness := (true, "4cecbd6a23d0475acae70b9b4718c3070a437b4a5975e761881664620fcb77a6"), looks := false }, kinds := [], alts := [], laidByText := true, laidKinds := [.data, .data], laidTests := true, laidLooks := .later }
def PointKeepsUptoCardSaid : Prop := Claim7.holds Tryz.pinned (.plain (OpenSpec.upto pointKeepsSpec)) pointKeepsUptoCard

/-- THE SECOND FORM's CARD OF 'wicketlaw20.PointRound'. -/
def pointRoundUptoCard : Claim7 := { stood := { row := pointRoundUptoRow, standIns := [], harness := (true, "4cecbd6a23d0475acae70b9b4718c3070a437b4a5975e761881664620fcb77a6"), looks := false }, kinds := [], alts := [], laidByText := true, laidKinds := [.data, .data], laidTests := true, laidLooks := .later }
def PointRoundUptoCardSaid : Prop := Claim7.holds Tryz.pinned (.plain (OpenSpec.upto pointRoundSpec)) pointRoundUptoCard

/-- THE SECOND FORM's CARD OF 'wicketlaw20.PointNames'. -/
def pointNamesUptoCard : Claim7 := { stood := { row := pointNamesUptoRow, standIns := [], harness := (true, "4cecbd6a23d0475acae70b9b4718c3070a437b4a5975e761881664620fcb77a6"), looks := false }, kinds := [], alts := [], laidByText := true, laidKinds := [.data, .data], laidTests := true, laidLooks := .later }
def PointNamesUptoCardSaid : Prop := Claim7.holds Tryz.pinned (.plain (OpenSpec.upto pointNamesSpec)) pointNamesUptoCard

/-- THE SECOND FORM's CARD OF 'wicketlaw20.PointPlays'. -/
def pointPlaysUptoCard : Claim7 := { stood := { row := pointPlaysUptoRow, standIns := [], harness := (true, "4cecbd6a23d0475acae70b9b4718c3070a437b4a5975e761881664620fcb77a6"), looks := false }, kinds := [], alts := [], laidByText := true, laidKinds := [.data, .data], laidTests := true, laidLooks := .later }
def PointPlaysUptoCardSaid : Prop := Claim7.holds Tryz.pinned (.plain (OpenSpec.upto pointPlaysSpec)) pointPlaysUptoCard

/-- THE SECOND FORM's CARD OF 'wicketlaw20.PointHand'. -/
def pointHandUptoCard : Claim7 := { stood := { row := pointHandUptoRow, standIns := [], harness := (true, "4cecbd6a23d0475acae70b9b4718c3070a437b4a5975e761881664620fcb77a6"), looks := false }, kinds := [], alts := [], laidByText := true, laidKinds := [.data, .data], laidTests := true, laidLooks := .later }
def PointHandUptoCardSaid : Prop := Claim7.holds Tryz.pinned (.plain (OpenSpec.upto pointHandSpec)) pointHandUptoCard
end Rows
end Go.Proofs.YtcdjepkhdjpjcaaGreatDoor
