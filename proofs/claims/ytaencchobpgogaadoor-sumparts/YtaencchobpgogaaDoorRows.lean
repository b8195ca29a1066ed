/-
  NARROWER THAN 'FOR EVERY INPUT', by the rows' own cells (each row's printed sentence says how): SumNames: laid · SumTexts: laid · SumTurns: laid · SumBursts: laid · SumParts: laid · SumJoins: laid.
  DERIVED. THE GIVEN ROWS OF THIS SEAT. 6 by the template 'for every input the law returns true; each argument reads behind the call as it read before'; 0 by the template 'total and deterministic' (their statements: YtaencchobpgogaaDoorTotals.lean).
  GIVEN WITH THE SEED: the statements are not yours to turn. If you find one false, say at which input.
  Laid BY PROGRAM, IN A SANDBOX (cutbox-rows.mjs): the forced cells as the released guide's own fill.sh prints them over the translation 95b7fdab2b878ecc… (all of the seat's roots in one cut). By AI agents, Wed Nov 11 2026. No macro, syntax, notation, axiom, sorry.
-/
import Derived.Test.YtaencchobpgogaaDoorChecked
import GoSem.Claim
import GoSem.ClaimJoined
import GoSem.ClaimMapViews
import Derived.JoinedTies
import Derived.KernelRfl
namespace Go.Proofs.YtaencchobpgogaaDoor
/- THE CELL 'sum', in the pinned program and in every row, IS THE sha256 OF THE DUMP (.gsa) THAT YtaencchobpgogaaDoorProg.lean LOADS. Nothing in Lean hashes anything: it is a label: what it is worth is what the hold of that sum in a sandbox is worth. -/
noncomputable def Tryd.pinned : Pinned := { name := "ytaencchobpgogaadoor", sum := "95b7fdab2b878ecc7f24f65d1f0094c3e10533c66a5008a1f58b79935cf4f9f5", checked := Tryd.checked }
namespace Rows
def none {H : Type} : Left H := { results := [], args := [] }

/- WHAT THE LISTED PACKAGE-LEVEL VARIABLES READ AS WHEN THE CALL BEGINS. Each datum BY PROGRAM (the guide's laid-datum.mjs) off the statement by which the dump's own 'gosem.cut.vars' lays the variable. In a bare row this is a premise. The card (YtaencchobpgogaaDoorCards.lean) ties it to the program's text. -/
def laid_wicket_sum_halves {H : Type} : DataW H := .agg [.lit (.int .u32 0), .lit (.int .u32 498536548), .lit (.int .u32 997073096), .lit (.int .u32 651767980), .lit (.int .u32 1994146192), .lit (.int .u32 1802195444), .lit (.int .u32 1303535960), .lit (.int .u32 1342533948), .lit (.int .u32 3988292384), .lit (.int .u32 4027552580), .lit (.int .u32 3604390888), .lit (.int .u32 3412177804), .lit (.int .u32 2607071920), .lit (.int .u32 2262029012), .lit (.int .u32 2685067896), .lit (.int .u32 3183342108)]

/-- 'wicketlaw02.SumNames': WHATEVER THE INPUT: true; the input reads as it did. -/
def sumNamesSpec : ChangeSpec := { name := "sumNames", fn := fun _ => fun
  | [] => { results := [.lit (.bool true)], args := [] }
  | _ => none }
def sumNamesRow : OpenClaim := { program := "ytaencchobpgogaadoor", sum := "95b7fdab2b878ecc7f24f65d1f0094c3e10533c66a5008a1f58b79935cf4f9f5", func := "wicket/wicketlaw02.SumNames", spec := "sumNames", named := ["wicket/sum.halves"], apart := false, laid := [("wicket/sum.halves", laid_wicket_sum_halves)] }
def SumNamesSaid : Prop := sumNamesRow.holds Tryd.pinned (OpenSpec.ofChange sumNamesSpec)

/-- ITS FALSE NEIGHBOUR: 'it returns false'. Refute it at one input. -/
def sumNamesWrong : ChangeSpec := { name := "sumNames", fn := fun _ => fun
  | [] => { results := [.lit (.bool false)], args := [] }
  | _ => none }
def SumNamesWrongFalsely : Prop := sumNamesRow.holds Tryd.pinned (OpenSpec.ofChange sumNamesWrong)

/-- 'wicketlaw02.SumTexts': WHATEVER THE INPUT: true; the input reads as it did. -/
def sumTextsSpec : ChangeSpec := { name := "sumTexts", fn := fun _ => fun
  | [d1, d2, d3, d4, d5] => { results := [.lit (.bool true)], args := [d1, d2, d3, d4, d5] }
  | _ => none }
def sumTextsRow : OpenClaim := { program := "ytaencchobpgogaadoor", sum := "95b7fdab2b878ecc7f24f65d1f0094c3e10533c66a5008a1f58b79935cf4f9f5", func := "wicket/wicketlaw02.SumTexts", spec := "sumTexts", named := ["wicket/sum.halves"], apart := false, laid := [("wicket/sum.halves", laid_wicket_sum_halves)] }
def SumTextsSaid : Prop := sumTextsRow.holds Tryd.pinned (OpenSpec.ofChange sumTextsSpec)

/-- ITS FALSE NEIGHBOUR: 'it returns false'. Refute it at one input. -/
def sumTextsWrong : ChangeSpec := { name := "sumTexts", fn := fun _ => fun
  | [d1, d2, d3, d4, d5] => { results := [.lit (.bool false)], args := [d1, d2, d3, d4, d5] }
  | _ => none }
def SumTextsWrongFalsely : Prop := sumTextsRow.holds Tryd.pinned (OpenSpec.ofChange sumTextsWrong)

/-- 'wicketlaw02.SumTurns': WHATEVER THE INPUT: true; the input reads as it did. -/
def sumTurnsSpec : ChangeSpec := { name := "sumTurns", fn := fun _ => fun
  | [d1, d2] => { results := [.lit (.bool true)], args := [d1, d2] }
  | _ => none }
def sumTurnsRow : OpenClaim := { program := "ytaencchobpgogaadoor", sum := "95b7fdab2b878ecc7f24f65d1f0094c3e10533c66a5008a1f58b79935cf4f9f5", func := "wicket/wicketlaw02.SumTurns", spec := "sumTurns", named := ["wicket/sum.halves"], apart := false, laid := [("wicket/sum.halves", laid_wicket_sum_halves)] }
def SumTurnsSaid : Prop := sumTurnsRow.holds Tryd.pinned (OpenSpec.ofChange sumTurnsSpec)

/-- ITS FALSE NEIGHBOUR: 'it returns false'. Refute it at one input. -/
def sumTurnsWrong : ChangeSpec := { name := "sumTurns", fn := fun _ => fun
  | [d1, d2] => { results := [.lit (.bool false)], args := [d1, d2] }
  | _ => none }
def SumTurnsWrongFalsely : Prop := sumTurnsRow.holds Tryd.pinned (OpenSpec.ofChange sumTurnsWrong)

/-- 'wicketlaw02.SumBursts': WHATEVER THE INPUT: true; the input reads as it did. -/
def sumBurstsSpec : ChangeSpec := { name := "sumBursts", fn := fun _ => fun
  | [d1, d2, d3] => { results := [.lit (.bool true)], args := [d1, d2, d3] }
  | _ => none }
def sumBurstsRow : OpenClaim := { program := "ytaencchobpgogaadoor", sum := "95b7fdab2b878ecc7f24f65d1f0094c3e10533c66a5008a1f58b79935cf4f9f5", func := "wicket/wicketlaw02.SumBursts", spec := "sumBursts", named := ["wicket/sum.halves"], apart := false, laid := [("wicket/sum.halves", laid_wicket_sum_halves)] }
def SumBurstsSaid : Prop := sumBurstsRow.holds Tryd.pinned (OpenSpec.ofChange sumBurstsSpec)

/-- ITS FALSE NEIGHBOUR: 'it returns false'. Refute it at one input. -/
def sumBurstsWrong : ChangeSpec := { name := "sumBursts", fn := fun _ => fun
  | [d1, d2, d3] => { results := [.lit (.bool false)], args := [d1, d2, d3] }
  | _ => none }
def SumBurstsWrongFalsely : Prop := sumBurstsRow.holds Tryd.pinned (OpenSpec.ofChange sumBurstsWrong)

/-- 'wicketlaw02.SumParts': WHATEVER THE INPUT: true; the input reads as it did. -/
def sumPartsSpec : ChangeSpec := { name := "sumParts", fn := fun _ => fun
  | [d] => { results := [.lit (.bool true)], args := [d] }
  | _ => none }
def sumPartsRow : OpenClaim := { program := "ytaencchobpgogaadoor", sum := "95b7fdab2b878ecc7f24f65d1f0094c3e10533c66a5008a1f58b79935cf4f9f5", func := "wicket/wicketlaw02.SumParts", spec := "sumParts", named := ["wicket/sum.halves"], apart := false, laid := [("wicket/sum.halves", laid_wicket_sum_halves)] }
def SumPartsSaid : Prop := sumPartsRow.holds Tryd.pinned (OpenSpec.ofChange sumPartsSpec)

/-- ITS FALSE NEIGHBOUR: 'it returns false'. Refute it at one input. -/
def sumPartsWrong : ChangeSpec := { name := "sumParts", fn := fun _ => fun
  | [d] => { results := [.lit (.bool false)], args := [d] }
  | _ => none }
def SumPartsWrongFalsely : Prop := sumPartsRow.holds Tryd.pinned (OpenSpec.ofChange sumPartsWrong)

/-- 'wicketlaw02.SumJoins': WHATEVER THE INPUT: true; the input reads as it did. -/
def sumJoinsSpec : ChangeSpec := { name := "sumJoins", fn := fun _ => fun
  | [d1, d2, d3, d4, d5] => { results := [.lit (.bool true)], args := [d1, d2, d3, d4, d5] }
  | _ => none }
def sumJoinsRow : OpenClaim := { program := "ytaencchobpgogaadoor", sum := "95b7fdab2b878ecc7f24f65d1f0094c3e10533c66a5008a1f58b79935cf4f9f5", func := "wicket/wicketlaw02.SumJoins", spec := "sumJoins", named := ["wicket/sum.halves"], apart := false, laid := [("wicket/sum.halves", laid_wicket_sum_halves)] }
def SumJoinsSaid : Prop := sumJoinsRow.holds Tryd.pinned (OpenSpec.ofChange sumJoinsSpec)

/-- ITS FALSE NEIGHBOUR: 'it returns false'. Refute it at one input. -/
def sumJoinsWrong : ChangeSpec := { name := "sumJoins", fn := fun _ => fun
  | [d1, d2, d3, d4, d5] => { results := [.lit (.bool false)], args := [d1, d2, d3, d4, d5] }
  | _ => none }
def SumJoinsWrongFalsely : Prop := sumJoinsRow.holds Tryd.pinned (OpenSpec.ofChange sumJoinsWrong)

/- THE SECOND FORM. 'bulk': how many values and letters a reading holds, each counted each time it is reached (what is shared counts as often as it is met; a slice's spare places count too). A statement '..UptoSaid' is the law's where the arguments, and the package variables that the reading takes, are together of bulk at most 1048576: NARROWER than '..Said'. Prove '..Said' where nothing that the law and all that it calls make is longer than what came in: it says more and counts as full. Else prove '..UptoSaid'. A law counts once. -/
mutual
def uptoBulk {H : Type} : DataW H → Nat
  | .lit (.string bytes) => bytes.length + 1
  | .lit _ => 1
  | .nil => 1
  | .ptr d => uptoBulk d + 1
  | .slice elems spare => uptoBulkAll elems + uptoBulkAll spare + 1
  | .agg parts => uptoBulkAll parts + 1
  | .iface _ d => uptoBulk d + 1
  | .map entries => uptoBulkEntries entries + 1
  | .held _ => 1
def uptoBulkAll {H : Type} : List (DataW H) → Nat
  | [] => 0
  | d :: r => uptoBulk d + uptoBulkAll r
def uptoBulkEntries {H : Type} : List (Lit × DataW H) → Nat
  | [] => 0
  | x :: r => uptoBulkEntry x + uptoBulkEntries r
def uptoBulkEntry {H : Type} : Lit × DataW H → Nat
  | (.string bytes, d) => bytes.length + uptoBulk d + 1
  | (_, d) => uptoBulk d + 1
 end
def uptoSmall : (H : Type) → List (DataW H) → Bool := fun _ ds => decide (uptoBulkAll ds ≤ 1048576)
def OpenSpec.upto (s : _root_.Go.ChangeSpec) : _root_.Go.OpenSpec := { _root_.Go.OpenSpec.ofChange s with cond := some uptoSmall }

/-- 'wicketlaw02.SumNames', WHERE WHAT IT READS IS OF BULK AT MOST 1048576: true; the input reads as it did. -/
def sumNamesUptoRow : OpenClaim := { program := "ytaencchobpgogaadoor", sum := "95b7fdab2b878ecc7f24f65d1f0094c3e10533c66a5008a1f58b79935cf4f9f5", func := "wicket/wicketlaw02.SumNames", spec := "sumNames", named := ["wicket/sum.halves"], apart := false, laid := [("wicket/sum.halves", laid_wicket_sum_halves)], narrowed := true }
def SumNamesUptoSaid : Prop := sumNamesUptoRow.holds Tryd.pinned (OpenSpec.upto sumNamesSpec)

/-- 'wicketlaw02.SumTexts', WHERE WHAT IT READS IS OF BULK AT MOST 1048576: true; the input reads as it did. -/
def sumTextsUptoRow : OpenClaim := { program := "ytaencchobpgogaadoor", sum := "95b7fdab2b878ecc7f24f65d1f0094c3e10533c66a5008a1f58b79935cf4f9f5", func := "wicket/wicketlaw02.SumTexts", spec := "sumTexts", named := ["wicket/sum.halves"], apart := false, laid := [("wicket/sum.halves", laid_wicket_sum_halves)], narrowed := true }
def SumTextsUptoSaid : Prop := sumTextsUptoRow.holds Tryd.pinned (OpenSpec.upto sumTextsSpec)

/-- 'wicketlaw02.SumTurns', WHERE WHAT IT READS IS OF BULK AT MOST 1048576: true; the input reads as it did. -/
def sumTurnsUptoRow : OpenClaim := { program := "ytaencchobpgogaadoor", sum := "95b7fdab2b878ecc7f24f65d1f0094c3e10533c66a5008a1f58b79935cf4f9f5", func := "wicket/wicketlaw02.SumTurns", spec := "sumTurns", named := ["wicket/sum.halves"], apart := false, laid := [("wicket/sum.halves", laid_wicket_sum_halves)], narrowed := true }
def SumTurnsUptoSaid : Prop := sumTurnsUptoRow.holds Tryd.pinned (OpenSpec.upto sumTurnsSpec)

/-- 'wicketlaw02.SumBursts', WHERE WHAT IT READS IS OF BULK AT MOST 1048576: true; the input reads as it did. -/
def sumBurstsUptoRow : OpenClaim := { program := "ytaencchobpgogaadoor", sum := "95b7fdab2b878ecc7f24f65d1f0094c3e10533c66a5008a1f58b79935cf4f9f5", func := "wicket/wicketlaw02.SumBursts", spec := "sumBursts", named := ["wicket/sum.halves"], apart := false, laid := [("wicket/sum.halves", laid_wicket_sum_halves)], narrowed := true }
def SumBurstsUptoSaid : Prop := sumBurstsUptoRow.holds Tryd.pinned (OpenSpec.upto sumBurstsSpec)

/-- 'wicketlaw02.SumParts', WHERE WHAT IT READS IS OF BULK AT MOST 1048576: true; the input reads as it did. -/
def sumPartsUptoRow : OpenClaim := { program := "ytaencchobpgogaadoor", sum := "95b7fdab2b878ecc7f24f65d1f0094c3e10533c66a5008a1f58b79935cf4f9f5", func := "wicket/wicketlaw02.SumParts", spec := "sumParts", named := ["wicket/sum.halves"], apart := false, laid := [("wicket/sum.halves", laid_wicket_sum_halves)], narrowed := true }
def SumPartsUptoSaid : Prop := sumPartsUptoRow.holds Tryd.pinned (OpenSpec.upto sumPartsSpec)

/-- 'wicketlaw02.SumJoins', WHERE WHAT IT READS IS OF BULK AT MOST 1048576: true; the input reads as it did. -/
def sumJoinsUptoRow : OpenClaim := { program := "ytaencchobpgogaadoor", sum := "95b7fdab2b878ecc7f24f65d1f0094c3e10533c66a5008a1f58b79935cf4f9f5", func := "wicket/wicketlaw02.SumJoins", spec := "sumJoins", named := ["wicket/sum.halves"], apart := false, laid := [("wicket/sum.halves", laid_wicket_sum_halves)], narrowed := true }
def SumJoinsUptoSaid : Prop := sumJoinsUptoRow.holds Tryd.pinned (OpenSpec.upto sumJoinsSpec)

end Rows
end Go.Proofs.YtaencchobpgogaaDoor
