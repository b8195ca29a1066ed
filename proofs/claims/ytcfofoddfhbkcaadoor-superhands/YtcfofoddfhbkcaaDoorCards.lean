/-
  DERIVED. GIVEN WITH THE SEED: THE CARDS: each row of YtcfofoddfhbkcaaDoorRows.lean that lists a variable, with what it lists TIED to the program's text (the seventh form; the later family's looks); each row that meets fmt, with fmt's text TOLD by the authors' own Lean function (tested against real Go, not proved from fmt's source: count such statements apart). THE CARD IS WHAT COUNTS. Prove the row's statement (the work); the ties are given (YtcfofoddfhbkcaaDoorTie.lean); close each card by the builder's one call (the guide's Derived/Test/ToyasCard.lean, 'card_holds'). Laid BY PROGRAM, IN A SANDBOX (cutbox-door.mjs). By AI agents, Wed Nov 11 2026. No macro, syntax, notation, axiom, sorry.
-/
import Derived.Test.YtcfofoddfhbkcaaDoorRows
import GoSem.ClaimSeven
namespace Go.Proofs.YtcfofoddfhbkcaaDoor
namespace Rows

/-- THE TIED CARD OF 'wicketlaw07.SuperBack'. -/
def superBackCard : Claim7 := { stood := { row := superBackRow, standIns := [], harness := (true, "85b13674fbac04dc9ea11414b8297f95c65ac598e16142834112ed9bac30f03b"), looks := false }, kinds := [], alts := [], laidByText := true, laidKinds := [.data, .data], laidTests := true, laidLooks := .later }
def SuperBackCardSaid : Prop := Claim7.holds Tryd.pinned (.plain (OpenSpec.ofChange superBackSpec)) superBackCard

/-- THE TIED CARD OF 'wicketlaw07.SuperTurned'. -/
def superTurnedCard : Claim7 := { stood := { row := superTurnedRow, standIns := [], harness := (true, "85b13674fbac04dc9ea11414b8297f95c65ac598e16142834112ed9bac30f03b"), looks := false }, kinds := [], alts := [], laidByText := true, laidKinds := [.data, .data], laidTests := true, laidLooks := .later }
def SuperTurnedCardSaid : Prop := Claim7.holds Tryd.pinned (.plain (OpenSpec.ofChange superTurnedSpec)) superTurnedCard

/-- THE TIED CARD OF 'wicketlaw07.SuperHands'. -/
def superHandsCard : Claim7 := { stood := { row := superHandsRow, standIns := [], harness := (true, "85b13674fbac04dc9ea11414b8297f95c65ac598e16142834112ed9bac30f03b"), looks := false }, kinds := [], alts := [], laidByText := true, laidKinds := [.data, .data], laidTests := true, laidLooks := .later }
def SuperHandsCardSaid : Prop := Claim7.holds Tryd.pinned (.plain (OpenSpec.ofChange superHandsSpec)) superHandsCard

/-- THE TIED CARD OF 'wicketlaw07.SuperEncodes'. -/
def superEncodesCard : Claim7 := { stood := { row := superEncodesRow, standIns := [], harness := (true, "85b13674fbac04dc9ea11414b8297f95c65ac598e16142834112ed9bac30f03b"), looks := false }, kinds := [], alts := [], laidByText := true, laidKinds := [.data, .data], laidTests := true, laidLooks := .later }
def SuperEncodesCardSaid : Prop := Claim7.holds Tryd.pinned (.plain (OpenSpec.ofChange superEncodesSpec)) superEncodesCard

/-- THE TIED CARD OF 'wicketlaw07.SuperDecodes'. -/
def superDecodesCard : Claim7 := { stood := { row := superDecodesRow, standIns := [], harness := (true, "85b13674fbac04dc9ea11414b8297f95c65ac598e16142834112ed9bac30f03b"), looks := false }, kinds := [], alts := [], laidByText := true, laidKinds := [.data, .data], laidTests := true, laidLooks := .later }
def SuperDecodesCardSaid : Prop := Claim7.holds Tryd.pinned (.plain (OpenSpec.ofChange superDecodesSpec)) superDecodesCard

/-- THE TIED CARD OF 'wicketlaw07.SuperForged'. -/
def superForgedCard : Claim7 := { stood := { row := superForgedRow, standIns := [], harness := (true, "85b13674fbac04dc9ea11414b8297f95c65ac598e16142834112ed9bac30f03b"), looks := false }, kinds := [], alts := [], laidByText := true, laidKinds := [.data, .data], laidTests := true, laidLooks := .later }
def SuperForgedCardSaid : Prop := Claim7.holds Tryd.pinned (.plain (OpenSpec.ofChange superForgedSpec)) superForgedCard

/-- THE SECOND FORM's CARD OF 'wicketlaw07.SuperBack'. -/
def superBackUptoCard : Claim7 := { stood := { row := superBackUptoRow, standIns := [], harness := (true, "85b13674fbac04dc9ea11414b8297f95c65ac598e16142834112ed9bac30f03b"), looks := false }, kinds := [], alts := [], laidByText := true, laidKinds := [.data, .data], laidTests := true, laidLooks := .later }
def SuperBackUptoCardSaid : Prop := Claim7.holds Tryd.pinned (.plain (OpenSpec.upto superBackSpec)) superBackUptoCard

/-- THE SECOND FORM's CARD OF 'wicketlaw07.SuperTurned'. -/
def superTurnedUptoCard : Claim7 := { stood := { row := superTurnedUptoRow, standIns := [], harness := (true, "85b13674fbac04dc9ea11414b8297f95c65ac598e16142834112ed9bac30f03b"), looks := false }, kinds := [], alts := [], laidByText := true, laidKinds := [.data, .data], laidTests := true, laidLooks := .later }
def SuperTurnedUptoCardSaid : Prop := Claim7.holds Tryd.pinned (.plain (OpenSpec.upto superTurnedSpec)) superTurnedUptoCard

/-- THE SECOND FORM's CARD OF 'wicketlaw07.SuperHands'. -/
def superHandsUptoCard : Claim7 := { stood := { row := superHandsUptoRow, standIns := [], harness := (true, "85b13674fbac04dc9ea11414b8297f95c65ac598e16142834112ed9bac30f03b"), looks := false }, kinds := [], alts := [], laidByText := true, laidKinds := [.data, .data], laidTests := true, laidLooks := .later }
def SuperHandsUptoCardSaid : Prop := Claim7.holds Tryd.pinned (.plain (OpenSpec.upto superHandsSpec)) superHandsUptoCard

/-- THE SECOND FORM's CARD OF 'wicketlaw07.SuperEncodes'. -/
def superEncodesUptoCard : Claim7 := { stood := { row := superEncodesUptoRow, standIns := [], harness := (true, "85b13674fbac04dc9ea11414b8297f95c65ac598e16142834112ed9bac30f03b"), looks := false }, kinds := [], alts := [], laidByText := true, laidKinds := [.data, .data], laidTests := true, laidLooks := .later }
def SuperEncodesUptoCardSaid : Prop := Claim7.holds Tryd.pinned (.plain (OpenSpec.upto superEncodesSpec)) superEncodesUptoCard

/-- THE SECOND FORM's CARD OF 'wicketlaw07.SuperDecodes'. -/
def superDecodesUptoCard : Claim7 := { stood := { row := superDecodesUptoRow, standIns := [], harness := (true, "85b13674fbac04dc9ea11414b8297f95c65ac598e16142834112ed9bac30f03b"), looks := false }, kinds := [], alts := [], laidByText := true, laidKinds := [.data, .data], laidTests := true, laidLooks := .later }
def SuperDecodesUptoCardSaid : Prop := Claim7.holds Tryd.pinned (.plain (OpenSpec.upto superDecodesSpec)) superDecodesUptoCard

/-- THE SECOND FORM's CARD OF 'wicketlaw07.SuperForged'. -/
def superForgedUptoCard : Claim7 := { stood := { row := superForgedUptoRow, standIns := [], harness := (true, "85b13674fbac04dc9ea11414b8297f95c65ac598e16142834112ed9bac30f03b"), looks := false }, kinds := [], alts := [], laidByText := true, laidKinds := [.data, .data], laidTests := true, laidLooks := .later }
def SuperForgedUptoCardSaid : Prop := Claim7.holds Tryd.pinned (.plain (OpenSpec.upto superForgedSpec)) superForgedUptoCard
end Rows
end Go.Proofs.YtcfofoddfhbkcaaDoor
