/-
  NARROWER THAN 'FOR EVERY INPUT', by the rows' own cells (each row's printed sentence says how): SuperBack: laid · SuperTurned: laid · SuperHands: laid · SuperEncodes: laid · SuperDecodes: laid · SuperForged: laid.
  DERIVED. THE GIVEN ROWS OF THIS SEAT. 6 by the template 'for every input the law returns true; each argument reads behind the call as it read before'; 0 by the template 'total and deterministic' (their statements: YtcfofoddfhbkcaaDoorTotals.lean).
  GIVEN WITH THE SEED: the statements are not yours to turn. If you find one false, say at which input.
  Laid BY PROGRAM, IN A SANDBOX (cutbox-rows.mjs): the forced cells as the released guide's own fill.sh prints them over the translation cd25c5ecc428c3a3… (all of the seat's roots in one cut). By AI agents, Wed Nov 11 2026. No macro, syntax, notation, axiom, sorry.
-/
import Derived.Test.YtcfofoddfhbkcaaDoorChecked
import GoSem.Claim
import GoSem.ClaimJoined
import GoSem.ClaimMapViews
import Derived.JoinedTies
import Derived.KernelRfl
namespace Go.Proofs.YtcfofoddfhbkcaaDoor
/- THE CELL 'sum', in the pinned program and in every row, IS THE sha256 OF THE DUMP (.gsa) THAT YtcfofoddfhbkcaaDoorProg.lean LOADS. Nothing in Lean hashes anything: it is a label: what it is worth is what the hold of that sum in a sandbox is worth. -/
noncomputable def Tryd.pinned : Pinned := { name := "ytcfofoddfhbkcaadoor", sum := "cd25c5ecc428c3a340ae3f05aa77ea7177a5bea9df56f5520bb767c20ee0e1f8", checked := Tryd.checked }
namespace Rows
def none {H : Type} : Left H := { results := [], args := [] }

/- WHAT THE LISTED PACKAGE-LEVEL VARIABLES READ AS WHEN THE CALL BEGINS. Each datum BY PROGRAM (the guide's laid-datum.mjs) off the statement by which the dump's own 'gosem.cut.vars' lays the variable. In a bare row this is a premise. The card (YtcfofoddfhbkcaaDoorCards.lean) ties it to the program's text. -/
def laid_wicket_sum_halves {H : Type} : DataW H := .agg [.lit (.int .u32 0), .lit (.int .u32 498536548), .lit (.int .u32 997073096), .lit (.int .u32 651767980), .lit (.int .u32 1994146192), .lit (.int .u32 1802195444), .lit (.int .u32 1303535960), .lit (.int .u32 1342533948), .lit (.int .u32 3988292384), .lit (.int .u32 4027552580), .lit (.int .u32 3604390888), .lit (.int .u32 3412177804), .lit (.int .u32 2607071920), .lit (.int .u32 2262029012), .lit (.int .u32 2685067896), .lit (.int .u32 3183342108)]
def laid_wicket_super_fields {H : Type} : DataW H := .agg [.agg [.lit (.int .i64 6), .lit (.int .i64 1)], .agg [.lit (.int .i64 8), .lit (.int .i64 1)], .agg [.lit (.int .i64 9), .lit (.int .i64 1)], .agg [.lit (.int .i64 10), .lit (.int .i64 1)], .agg [.lit (.int .i64 11), .lit (.int .i64 1)], .agg [.lit (.int .i64 12), .lit (.int .i64 1)], .agg [.lit (.int .i64 16), .lit (.int .i64 8)], .agg [.lit (.int .i64 24), .lit (.int .i64 8)]]

/-- 'wicketlaw07.SuperBack': WHATEVER THE INPUT: true; the input reads as it did. -/
def superBackSpec : ChangeSpec := { name := "superBack", fn := fun _ => fun
  | [d1, d2, d3] => { results := [.lit (.bool true)], args := [d1, d2, d3] }
  | _ => none }
def superBackRow : OpenClaim := { program := "ytcfofoddfhbkcaadoor", sum := "cd25c5ecc428c3a340ae3f05aa77ea7177a5bea9df56f5520bb767c20ee0e1f8", func := "wicket/wicketlaw07.SuperBack", spec := "superBack", unfollowed := true, recurses := true, named := ["wicket/super.fields", "wicket/sum.halves"], apart := false, laid := [("wicket/sum.halves", laid_wicket_sum_halves), ("wicket/super.fields", laid_wicket_super_fields)] }
def SuperBackSaid : Prop := superBackRow.holds Tryd.pinned (OpenSpec.ofChange superBackSpec)

/-- ITS FALSE NEIGHBOUR: 'it returns false'. Refute it at one input. -/
def superBackWrong : ChangeSpec := { name := "superBack", fn := fun _ => fun
  | [d1, d2, d3] => { results := [.lit (.bool false)], args := [d1, d2, d3] }
  | _ => none }
def SuperBackWrongFalsely : Prop := superBackRow.holds Tryd.pinned (OpenSpec.ofChange superBackWrong)

/-- 'wicketlaw07.SuperTurned': WHATEVER THE INPUT: true; the input reads as it did. -/
def superTurnedSpec : ChangeSpec := { name := "superTurned", fn := fun _ => fun
  | [d1, d2, d3] => { results := [.lit (.bool true)], args := [d1, d2, d3] }
  | _ => none }
def superTurnedRow : OpenClaim := { program := "ytcfofoddfhbkcaadoor", sum := "cd25c5ecc428c3a340ae3f05aa77ea7177a5bea9df56f5520bb767c20ee0e1f8", func := "wicket/wicketlaw07.SuperTurned", spec := "superTurned", unfollowed := true, recurses := true, named := ["wicket/super.fields", "wicket/sum.halves"], apart := false, laid := [("wicket/sum.halves", laid_wicket_sum_halves), ("wicket/super.fields", laid_wicket_super_fields)] }
def SuperTurnedSaid : Prop := superTurnedRow.holds Tryd.pinned (OpenSpec.ofChange superTurnedSpec)

/-- ITS FALSE NEIGHBOUR: 'it returns false'. Refute it at one input. -/
def superTurnedWrong : ChangeSpec := { name := "superTurned", fn := fun _ => fun
  | [d1, d2, d3] => { results := [.lit (.bool false)], args := [d1, d2, d3] }
  | _ => none }
def SuperTurnedWrongFalsely : Prop := superTurnedRow.holds Tryd.pinned (OpenSpec.ofChange superTurnedWrong)

/-- 'wicketlaw07.SuperHands': WHATEVER THE INPUT: true; the input reads as it did. -/
def superHandsSpec : ChangeSpec := { name := "superHands", fn := fun _ => fun
  | [d1, d2] => { results := [.lit (.bool true)], args := [d1, d2] }
  | _ => none }
def superHandsRow : OpenClaim := { program := "ytcfofoddfhbkcaadoor", sum := "cd25c5ecc428c3a340ae3f05aa77ea7177a5bea9df56f5520bb767c20ee0e1f8", func := "wicket/wicketlaw07.SuperHands", spec := "superHands", unfollowed := true, recurses := true, named := ["wicket/super.fields", "wicket/sum.halves"], apart := false, laid := [("wicket/sum.halves", laid_wicket_sum_halves), ("wicket/super.fields", laid_wicket_super_fields)] }
def SuperHandsSaid : Prop := superHandsRow.holds Tryd.pinned (OpenSpec.ofChange superHandsSpec)

/-- ITS FALSE NEIGHBOUR: 'it returns false'. Refute it at one input. -/
def superHandsWrong : ChangeSpec := { name := "superHands", fn := fun _ => fun
  | [d1, d2] => { results := [.lit (.bool false)], args := [d1, d2] }
  | _ => none }
def SuperHandsWrongFalsely : Prop := superHandsRow.holds Tryd.pinned (OpenSpec.ofChange superHandsWrong)

/-- 'wicketlaw07.SuperEncodes': WHATEVER THE INPUT: true; the input reads as it did. -/
def superEncodesSpec : ChangeSpec := { name := "superEncodes", fn := fun _ => fun
  | [d] => { results := [.lit (.bool true)], args := [d] }
  | _ => none }
def superEncodesRow : OpenClaim := { program := "ytcfofoddfhbkcaadoor", sum := "cd25c5ecc428c3a340ae3f05aa77ea7177a5bea9df56f5520bb767c20ee0e1f8", func := "wicket/wicketlaw07.SuperEncodes", spec := "superEncodes", named := ["wicket/super.fields", "wicket/sum.halves"], apart := false, laid := [("wicket/sum.halves", laid_wicket_sum_halves), ("wicket/super.fields", laid_wicket_super_fields)] }
def SuperEncodesSaid : Prop := superEncodesRow.holds Tryd.pinned (OpenSpec.ofChange superEncodesSpec)

/-- ITS FALSE NEIGHBOUR: 'it returns false'. Refute it at one input. -/
def superEncodesWrong : ChangeSpec := { name := "superEncodes", fn := fun _ => fun
  | [d] => { results := [.lit (.bool false)], args := [d] }
  | _ => none }
def SuperEncodesWrongFalsely : Prop := superEncodesRow.holds Tryd.pinned (OpenSpec.ofChange superEncodesWrong)

/-- 'wicketlaw07.SuperDecodes': WHATEVER THE INPUT: true; the input reads as it did. -/
def superDecodesSpec : ChangeSpec := { name := "superDecodes", fn := fun _ => fun
  | [d] => { results := [.lit (.bool true)], args := [d] }
  | _ => none }
def superDecodesRow : OpenClaim := { program := "ytcfofoddfhbkcaadoor", sum := "cd25c5ecc428c3a340ae3f05aa77ea7177a5bea9df56f5520bb767c20ee0e1f8", func := "wicket/wicketlaw07.SuperDecodes", spec := "superDecodes", named := ["wicket/super.fields", "wicket/sum.halves"], apart := false, laid := [("wicket/sum.halves", laid_wicket_sum_halves), ("wicket/super.fields", laid_wicket_super_fields)] }
def SuperDecodesSaid : Prop := superDecodesRow.holds Tryd.pinned (OpenSpec.ofChange superDecodesSpec)

/-- ITS FALSE NEIGHBOUR: 'it returns false'. Refute it at one input. -/
def superDecodesWrong : ChangeSpec := { name := "superDecodes", fn := fun _ => fun
  | [d] => { results := [.lit (.bool false)], args := [d] }
  | _ => none }
def SuperDecodesWrongFalsely : Prop := superDecodesRow.holds Tryd.pinned (OpenSpec.ofChange superDecodesWrong)

/-- 'wicketlaw07.SuperForged': WHATEVER THE INPUT: true; the input reads as it did. -/
def superForgedSpec : ChangeSpec := { name := "superForged", fn := fun _ => fun
  | [d1, d2, d3] => { results := [.lit (.bool true)], args := [d1, d2, d3] }
  | _ => none }
def superForgedRow : OpenClaim := { program := "ytcfofoddfhbkcaadoor", sum := "cd25c5ecc428c3a340ae3f05aa77ea7177a5bea9df56f5520bb767c20ee0e1f8", func := "wicket/wicketlaw07.SuperForged", spec := "superForged", named := ["wicket/super.fields", "wicket/sum.halves"], apart := false, laid := [("wicket/sum.halves", laid_wicket_sum_halves), ("wicket/super.fields", laid_wicket_super_fields)] }
def SuperForgedSaid : Prop := superForgedRow.holds Tryd.pinned (OpenSpec.ofChange superForgedSpec)

/-- ITS FALSE NEIGHBOUR: 'it returns false'. Refute it at one input. -/
def superForgedWrong : ChangeSpec := { name := "superForged", fn := fun _ => fun
  | [d1, d2, d3] => { results := [.lit (.bool false)], args := [d1, d2, d3] }
  | _ => none }
def SuperForgedWrongFalsely : Prop := superForgedRow.holds Tryd.pinned (OpenSpec.ofChange superForgedWrong)

/- THE SECOND FORM. 'bulk': how many values and letters a reading holds, each counted each time it is reached (what is shared counts as often as it is met; a slice's spare places count too). A statement '..UptoSaid' is the law's where the arguments, and the package variables that the reading takes, are together of bulk at most 1048576: NARROWER than '..Said'. Prove '..Said' where nothing that the law and all that it calls make is longer than what came in: it says more and counts as full. Else prove '..UptoSaid'. A law counts once. -/
mutual
def uptoBulk {H : Type} : DataW H → Nat
  | .lit (.string bytes) => bytes.length + 1
  | .lit _ => 1
  | .nil => 1
  | .ptr d => uptoBulk d + 1
  | .slice elems spare => uptoBulkAll elems + uptoBulkAll spare + 1
  | .agg parts => uptoBulkAll parts + 1
  | .iface _ d => uptoBulk d + 1
  | .map entries => uptoBulkEntries entries + 1
  | .held _ => 1
def uptoBulkAll {H : Type} : List (DataW H) → Nat
  | [] => 0
  | d :: r => uptoBulk d + uptoBulkAll r
def uptoBulkEntries {H : Type} : List (Lit × DataW H) → Nat
  | [] => 0
  | x :: r => uptoBulkEntry x + uptoBulkEntries r
def uptoBulkEntry {H : Type} : Lit × DataW H → Nat
  | (.string bytes, d) => bytes.length + uptoBulk d + 1
  | (_, d) => uptoBulk d + 1
 end
def uptoSmall : (H : Type) → List (DataW H) → Bool := fun _ ds => decide (uptoBulkAll ds ≤ 1048576)
def OpenSpec.upto (s : _root_.Go.ChangeSpec) : _root_.Go.OpenSpec := { _root_.Go.OpenSpec.ofChange s with cond := some uptoSmall }

/-- 'wicketlaw07.SuperBack', WHERE WHAT IT READS IS OF BULK AT MOST 1048576: true; the input reads as it did. -/
def superBackUptoRow : OpenClaim := { program := "ytcfofoddfhbkcaadoor", sum := "cd25c5ecc428c3a340ae3f05aa77ea7177a5bea9df56f5520bb767c20ee0e1f8", func := "wicket/wicketlaw07.SuperBack", spec := "superBack", unfollowed := true, recurses := true, named := ["wicket/super.fields", "wicket/sum.halves"], apart := false, laid := [("wicket/sum.halves", laid_wicket_sum_halves), ("wicket/super.fields", laid_wicket_super_fields)], narrowed := true }
def SuperBackUptoSaid : Prop := superBackUptoRow.holds Tryd.pinned (OpenSpec.upto superBackSpec)

/-- 'wicketlaw07.SuperTurned', WHERE WHAT IT READS IS OF BULK AT MOST 1048576: true; the input reads as it did. -/
def superTurnedUptoRow : OpenClaim := { program := "ytcfofoddfhbkcaadoor", sum := "cd25c5ecc428c3a340ae3f05aa77ea7177a5bea9df56f5520bb767c20ee0e1f8", func := "wicket/wicketlaw07.SuperTurned", spec := "superTurned", unfollowed := true, recurses := true, named := ["wicket/super.fields", "wicket/sum.halves"], apart := false, laid := [("wicket/sum.halves", laid_wicket_sum_halves), ("wicket/super.fields", laid_wicket_super_fields)], narrowed := true }
def SuperTurnedUptoSaid : Prop := superTurnedUptoRow.holds Tryd.pinned (OpenSpec.upto superTurnedSpec)

/-- 'wicketlaw07.SuperHands', WHERE WHAT IT READS IS OF BULK AT MOST 1048576: true; the input reads as it did. -/
def superHandsUptoRow : OpenClaim := { program := "ytcfofoddfhbkcaadoor", sum := "cd25c5ecc428c3a340ae3f05aa77ea7177a5bea9df56f5520bb767c20ee0e1f8", func := "wicket/wicketlaw07.SuperHands", spec := "superHands", unfollowed := true, recurses := true, named := ["wicket/super.fields", "wicket/sum.halves"], apart := false, laid := [("wicket/sum.halves", laid_wicket_sum_halves), ("wicket/super.fields", laid_wicket_super_fields)], narrowed := true }
def SuperHandsUptoSaid : Prop := superHandsUptoRow.holds Tryd.pinned (OpenSpec.upto superHandsSpec)

/-- 'wicketlaw07.SuperEncodes', WHERE WHAT IT READS IS OF BULK AT MOST 1048576: true; the input reads as it did. -/
def superEncodesUptoRow : OpenClaim := { program := "ytcfofoddfhbkcaadoor", sum := "cd25c5ecc428c3a340ae3f05aa77ea7177a5bea9df56f5520bb767c20ee0e1f8", func := "wicket/wicketlaw07.SuperEncodes", spec := "superEncodes", named := ["wicket/super.fields", "wicket/sum.halves"], apart := false, laid := [("wicket/sum.halves", laid_wicket_sum_halves), ("wicket/super.fields", laid_wicket_super_fields)], narrowed := true }
def SuperEncodesUptoSaid : Prop := superEncodesUptoRow.holds Tryd.pinned (OpenSpec.upto superEncodesSpec)

/-- 'wicketlaw07.SuperDecodes', WHERE WHAT IT READS IS OF BULK AT MOST 1048576: true; the input reads as it did. -/
def superDecodesUptoRow : OpenClaim := { program := "ytcfofoddfhbkcaadoor", sum := "cd25c5ecc428c3a340ae3f05aa77ea7177a5bea9df56f5520bb767c20ee0e1f8", func := "wicket/wicketlaw07.SuperDecodes", spec := "superDecodes", named := ["wicket/super.fields", "wicket/sum.halves"], apart := false, laid := [("wicket/sum.halves", laid_wicket_sum_halves), ("wicket/super.fields", laid_wicket_super_fields)], narrowed := true }
def SuperDecodesUptoSaid : Prop := superDecodesUptoRow.holds Tryd.pinned (OpenSpec.upto superDecodesSpec)

/-- 'wicketlaw07.SuperForged', WHERE WHAT IT READS IS OF BULK AT MOST 1048576: true; the input reads as it did. -/
def superForgedUptoRow : OpenClaim := { program := "ytcfofoddfhbkcaadoor", sum := "cd25c5ecc428c3a340ae3f05aa77ea7177a5bea9df56f5520bb767c20ee0e1f8", func := "wicket/wicketlaw07.SuperForged", spec := "superForged", named := ["wicket/super.fields", "wicket/sum.halves"], apart := false, laid := [("wicket/sum.halves", laid_wicket_sum_halves), ("wicket/super.fields", laid_wicket_super_fields)], narrowed := true }
def SuperForgedUptoSaid : Prop := superForgedUptoRow.holds Tryd.pinned (OpenSpec.upto superForgedSpec)

end Rows
end Go.Proofs.YtcfofoddfhbkcaaDoor
