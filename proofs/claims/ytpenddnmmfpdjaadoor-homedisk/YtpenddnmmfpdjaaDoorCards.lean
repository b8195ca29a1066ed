/-
  DERIVED. GIVEN WITH THE SEED: THE CARDS: each row of YtpenddnmmfpdjaaDoorRows.lean that lists a variable, with what it lists TIED to the program's text (the seventh form; the later family's looks); each row that meets fmt, with fmt's text TOLD by the authors' own Lean function (tested against real Go, not proved from fmt's source: count such statements apart). THE CARD IS WHAT COUNTS. Prove the row's statement (the work); the ties are given (YtpenddnmmfpdjaaDoorTie.lean); close each card by the builder's one call (the guide's Derived/Test/ToyasCard.lean, 'card_holds'). Laid BY PROGRAM, IN A SANDBOX (cutbox-door.mjs). By AI agents, Wed Nov 11 2026. No macro, syntax, notation, axiom, sorry.
-/
import Derived.Test.YtpenddnmmfpdjaaDoorRows
import GoSem.ClaimSeven
namespace Go.Proofs.YtpenddnmmfpdjaaDoor
namespace Rows

/-- THE TIED CARD OF 'wicketlaw08.HomeBack'. -/
def homeBackCard : Claim7 := { stood := { row := homeBackRow, standIns := [], harness := (true, "6d880281858d08dca00c53f4cfadde5bad750778161d80387c8122c67225c09a"), looks := false }, kinds := [], alts := [], laidByText := true, laidKinds := [.data, .data], laidTests := true, laidLooks := .later }
def HomeBackCardSaid : Prop := Claim7.holds Tryd.pinned (.plain (OpenSpec.ofChange homeBackSpec)) homeBackCard

/-- THE TIED CARD OF 'wicketlaw08.HomeTurned'. -/
def homeTurnedCard : Claim7 := { stood := { row := homeTurnedRow, standIns := [], harness := (true, "6d880281858d08dca00c53f4cfadde5bad750778161d80387c8122c67225c09a"), looks := false }, kinds := [], alts := [], laidByText := true, laidKinds := [.data, .data], laidTests := true, laidLooks := .later }
def HomeTurnedCardSaid : Prop := Claim7.holds Tryd.pinned (.plain (OpenSpec.ofChange homeTurnedSpec)) homeTurnedCard

/-- THE TIED CARD OF 'wicketlaw08.HomeNames'. -/
def homeNamesCard : Claim7 := { stood := { row := homeNamesRow, standIns := [], harness := (true, "6d880281858d08dca00c53f4cfadde5bad750778161d80387c8122c67225c09a"), looks := false }, kinds := [], alts := [], laidByText := true, laidKinds := [.data, .data], laidTests := true, laidLooks := .later }
def HomeNamesCardSaid : Prop := Claim7.holds Tryd.pinned (.plain (OpenSpec.ofChange homeNamesSpec)) homeNamesCard

/-- THE TIED CARD OF 'wicketlaw08.HomeKeeps'. -/
def homeKeepsCard : Claim7 := { stood := { row := homeKeepsRow, standIns := [], harness := (true, "6d880281858d08dca00c53f4cfadde5bad750778161d80387c8122c67225c09a"), looks := false }, kinds := [], alts := [], laidByText := true, laidKinds := [.data, .data], laidTests := true, laidLooks := .later }
def HomeKeepsCardSaid : Prop := Claim7.holds Tryd.pinned (.plain (OpenSpec.ofChange homeKeepsSpec)) homeKeepsCard

/-- THE TIED CARD OF 'wicketlaw08.HomeBytes'. -/
def homeBytesCard : Claim7 := { stood := { row := homeBytesRow, standIns := [], harness := (true, "6d880281858d08dca00c53f4cfadde5bad750778161d80387c8122c67225c09a"), looks := false }, kinds := [], alts := [], laidByText := true, laidKinds := [.data, .data], laidTests := true, laidLooks := .later }
def HomeBytesCardSaid : Prop := Claim7.holds Tryd.pinned (.plain (OpenSpec.ofChange homeBytesSpec)) homeBytesCard

/-- THE TIED CARD OF 'wicketlaw08.HomeDisk'. -/
def homeDiskCard : Claim7 := { stood := { row := homeDiskRow, standIns := [], harness := (true, "6d880281858d08dca00c53f4cfadde5bad750778161d80387c8122c67225c09a"), looks := false }, kinds := [], alts := [], laidByText := true, laidKinds := [.data, .data], laidTests := true, laidLooks := .later }
def HomeDiskCardSaid : Prop := Claim7.holds Tryd.pinned (.plain (OpenSpec.ofChange homeDiskSpec)) homeDiskCard

/-- THE SECOND FORM's CARD OF 'wicketlaw08.HomeBack'. -/
def homeBackUptoCard : Claim7 := { stood := { row := homeBackUptoRow, standIns := [], harness := (true, "6d880281858d08dca00c53f4cfadde5bad750778161d80387c8122c67225c09a"), looks := false }, kinds := [], alts := [], laidByText := true, laidKinds := [.data, .data], laidTests := true, laidLooks := .later }
def HomeBackUptoCardSaid : Prop := Claim7.holds Tryd.pinned (.plain (OpenSpec.upto homeBackSpec)) homeBackUptoCard

/-- THE SECOND FORM's CARD OF 'wicketlaw08.HomeTurned'. -/
def homeTurnedUptoCard : Claim7 := { stood := { row := homeTurnedUptoRow, standIns := [], harness := (true, "6d880281858d08dca00c53f4cfadde5bad750778161d80387c8122c67225c09a"), looks := false }, kinds := [], alts := [], laidByText := true, laidKinds := [.data, .data], laidTests := true, laidLooks := .later }
def HomeTurnedUptoCardSaid : Prop := Claim7.holds Tryd.pinned (.plain (OpenSpec.upto homeTurnedSpec)) homeTurnedUptoCard

/-- THE SECOND FORM's CARD OF 'wicketlaw08.HomeNames'. -/
def homeNamesUptoCard : Claim7 := { stood := { row := homeNamesUptoRow, standIns := [], harness := (true, "6d880281858d08dca00c53f4cfadde5bad750778161d80387c8122c67225c09a"), looks := false }, kinds := [], alts := [], laidByText := true, laidKinds := [.data, .data], laidTests := true, laidLooks := .later }
def HomeNamesUptoCardSaid : Prop := Claim7.holds Tryd.pinned (.plain (OpenSpec.upto homeNamesSpec)) homeNamesUptoCard

/-- THE SECOND FORM's CARD OF 'wicketlaw08.HomeKeeps'. -/
def homeKeepsUptoCard : Claim7 := { stood := { row := homeKeepsUptoRow, standIns := [], harness := (true, "6d880281858d08dca00c53f4cfadde5bad750778161d80387c8122c67225c09a"), looks := false }, kinds := [], alts := [], laidByText := true, laidKinds := [.data, .data], laidTests := true, laidLooks := .later }
def HomeKeepsUptoCardSaid : Prop := Claim7.holds Tryd.pinned (.plain (OpenSpec.upto homeKeepsSpec)) homeKeepsUptoCard

/-- THE SECOND FORM's CARD OF 'wicketlaw08.HomeBytes'. -/
def homeBytesUptoCard : Claim7 := { stood := { row := homeBytesUptoRow, standIns := [], harness := (true, "6d880281858d08dca00c53f4cfadde5bad750778161d80387c8122c67225c09a"), looks := false }, kinds := [], alts := [], laidByText := true, laidKinds := [.data, .data], laidTests := true, laidLooks := .later }
def HomeBytesUptoCardSaid : Prop := Claim7.holds Tryd.pinned (.plain (OpenSpec.upto homeBytesSpec)) homeBytesUptoCard

/-- THE SECOND FORM's CARD OF 'wicketlaw08.HomeDisk'. -/
def homeDiskUptoCard : Claim7 := { stood := { row := homeDiskUptoRow, standIns := [], harness := (true, "6d880281858d08dca00c53f4cfadde5bad750778161d80387c8122c67225c09a"), looks := false }, kinds := [], alts := [], laidByText := true, laidKinds := [.data, .data], laidTests := true, laidLooks := .later }
def HomeDiskUptoCardSaid : Prop := Claim7.holds Tryd.pinned (.plain (OpenSpec.upto homeDiskSpec)) homeDiskUptoCard
end Rows
end Go.Proofs.YtpenddnmmfpdjaaDoor
