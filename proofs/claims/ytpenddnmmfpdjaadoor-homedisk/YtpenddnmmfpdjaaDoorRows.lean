/-
  NARROWER THAN 'FOR EVERY INPUT', by the rows' own cells (each row's printed sentence says how): HomeBack: laid · HomeTurned: laid · HomeNames: laid · HomeKeeps: laid · HomeBytes: laid · HomeDisk: laid.
  DERIVED. THE GIVEN ROWS OF THIS SEAT. 6 by the template 'for every input the law returns true; each argument reads behind the call as it read before'; 0 by the template 'total and deterministic' (their statements: YtpenddnmmfpdjaaDoorTotals.lean).
  GIVEN WITH THE SEED: the statements are not yours to turn. If you find one false, say at which input.
  Laid BY PROGRAM, IN A SANDBOX (cutbox-rows.mjs): the forced cells as the released guide's own fill.sh prints them over the translation 7964d907182b8ed9… (all of the seat's roots in one cut). By AI agents, Wed Nov 11 2026. No macro, syntax, notation, axiom, sorry.
-/
import Derived.Test.YtpenddnmmfpdjaaDoorChecked
import GoSem.Claim
import GoSem.ClaimJoined
import GoSem.ClaimMapViews
import Derived.JoinedTies
import Derived.KernelRfl
namespace Go.Proofs.YtpenddnmmfpdjaaDoor
/- THE CELL 'sum', in the pinned program and in every row, IS THE sha256 OF THE DUMP (.gsa) THAT YtpenddnmmfpdjaaDoorProg.lean LOADS. Nothing in Lean hashes anything: it is a label: what it is worth is what the hold of that sum in a sandbox is worth. -/
noncomputable def Tryd.pinned : Pinned := { name := "ytpenddnmmfpdjaadoor", sum := "7964d907182b8ed965e316085fc77ee4e019e74a3e2625afff1c594fab58248c", checked := Tryd.checked }
namespace Rows
def none {H : Type} : Left H := { results := [], args := [] }

/- WHAT THE LISTED PACKAGE-LEVEL VARIABLES READ AS WHEN THE CALL BEGINS. Each datum BY PROGRAM (the guide's laid-datum.mjs) off the statement by which the dump's own 'gosem.cut.vars' lays the variable. In a bare row this is a premise. The card (YtpenddnmmfpdjaaDoorCards.lean) ties it to the program's text. -/
def laid_wicket_sum_halves {H : Type} : DataW H := .agg [.lit (.int .u32 0), .lit (.int .u32 498536548), .lit (.int .u32 997073096), .lit (.int .u32 651767980), .lit (.int .u32 1994146192), .lit (.int .u32 1802195444), .lit (.int .u32 1303535960), .lit (.int .u32 1342533948), .lit (.int .u32 3988292384), .lit (.int .u32 4027552580), .lit (.int .u32 3604390888), .lit (.int .u32 3412177804), .lit (.int .u32 2607071920), .lit (.int .u32 2262029012), .lit (.int .u32 2685067896), .lit (.int .u32 3183342108)]
def laid_wicket_super_fields {H : Type} : DataW H := .agg [.agg [.lit (.int .i64 6), .lit (.int .i64 1)], .agg [.lit (.int .i64 8), .lit (.int .i64 1)], .agg [.lit (.int .i64 9), .lit (.int .i64 1)], .agg [.lit (.int .i64 10), .lit (.int .i64 1)], .agg [.lit (.int .i64 11), .lit (.int .i64 1)], .agg [.lit (.int .i64 12), .lit (.int .i64 1)], .agg [.lit (.int .i64 16), .lit (.int .i64 8)], .agg [.lit (.int .i64 24), .lit (.int .i64 8)]]

/-- 'wicketlaw08.HomeBack': WHATEVER THE INPUT: true; the input reads as it did. -/
def homeBackSpec : ChangeSpec := { name := "homeBack", fn := fun _ => fun
  | [d1, d2, d3, d4] => { results := [.lit (.bool true)], args := [d1, d2, d3, d4] }
  | _ => none }
def homeBackRow : OpenClaim := { program := "ytpenddnmmfpdjaadoor", sum := "7964d907182b8ed965e316085fc77ee4e019e74a3e2625afff1c594fab58248c", func := "wicket/wicketlaw08.HomeBack", spec := "homeBack", named := ["wicket/sum.halves", "wicket/super.fields"], apart := false, laid := [("wicket/sum.halves", laid_wicket_sum_halves), ("wicket/super.fields", laid_wicket_super_fields)] }
def HomeBackSaid : Prop := homeBackRow.holds Tryd.pinned (OpenSpec.ofChange homeBackSpec)

/-- ITS FALSE NEIGHBOUR: 'it returns false'. Refute it at one input. -/
def homeBackWrong : ChangeSpec := { name := "homeBack", fn := fun _ => fun
  | [d1, d2, d3, d4] => { results := [.lit (.bool false)], args := [d1, d2, d3, d4] }
  | _ => none }
def HomeBackWrongFalsely : Prop := homeBackRow.holds Tryd.pinned (OpenSpec.ofChange homeBackWrong)

/-- 'wicketlaw08.HomeTurned': WHATEVER THE INPUT: true; the input reads as it did. -/
def homeTurnedSpec : ChangeSpec := { name := "homeTurned", fn := fun _ => fun
  | [d1, d2, d3, d4] => { results := [.lit (.bool true)], args := [d1, d2, d3, d4] }
  | _ => none }
def homeTurnedRow : OpenClaim := { program := "ytpenddnmmfpdjaadoor", sum := "7964d907182b8ed965e316085fc77ee4e019e74a3e2625afff1c594fab58248c", func := "wicket/wicketlaw08.HomeTurned", spec := "homeTurned", named := ["wicket/sum.halves", "wicket/super.fields"], apart := false, laid := [("wicket/sum.halves", laid_wicket_sum_halves), ("wicket/super.fields", laid_wicket_super_fields)] }
def HomeTurnedSaid : Prop := homeTurnedRow.holds Tryd.pinned (OpenSpec.ofChange homeTurnedSpec)

/-- ITS FALSE NEIGHBOUR: 'it returns false'. Refute it at one input. -/
def homeTurnedWrong : ChangeSpec := { name := "homeTurned", fn := fun _ => fun
  | [d1, d2, d3, d4] => { results := [.lit (.bool false)], args := [d1, d2, d3, d4] }
  | _ => none }
def HomeTurnedWrongFalsely : Prop := homeTurnedRow.holds Tryd.pinned (OpenSpec.ofChange homeTurnedWrong)

/-- 'wicketlaw08.HomeNames': WHATEVER THE INPUT: true; the input reads as it did. -/
def homeNamesSpec : ChangeSpec := { name := "homeNames", fn := fun _ => fun
  | [] => { results := [.lit (.bool true)], args := [] }
  | _ => none }
def homeNamesRow : OpenClaim := { program := "ytpenddnmmfpdjaadoor", sum := "7964d907182b8ed965e316085fc77ee4e019e74a3e2625afff1c594fab58248c", func := "wicket/wicketlaw08.HomeNames", spec := "homeNames", named := ["wicket/sum.halves", "wicket/super.fields"], apart := false, laid := [("wicket/sum.halves", laid_wicket_sum_halves), ("wicket/super.fields", laid_wicket_super_fields)] }
def HomeNamesSaid : Prop := homeNamesRow.holds Tryd.pinned (OpenSpec.ofChange homeNamesSpec)

/-- ITS FALSE NEIGHBOUR: 'it returns false'. Refute it at one input. -/
def homeNamesWrong : ChangeSpec := { name := "homeNames", fn := fun _ => fun
  | [] => { results := [.lit (.bool false)], args := [] }
  | _ => none }
def HomeNamesWrongFalsely : Prop := homeNamesRow.holds Tryd.pinned (OpenSpec.ofChange homeNamesWrong)

/-- 'wicketlaw08.HomeKeeps': WHATEVER THE INPUT: true; the input reads as it did. -/
def homeKeepsSpec : ChangeSpec := { name := "homeKeeps", fn := fun _ => fun
  | [d1, d2, d3, d4] => { results := [.lit (.bool true)], args := [d1, d2, d3, d4] }
  | _ => none }
def homeKeepsRow : OpenClaim := { program := "ytpenddnmmfpdjaadoor", sum := "7964d907182b8ed965e316085fc77ee4e019e74a3e2625afff1c594fab58248c", func := "wicket/wicketlaw08.HomeKeeps", spec := "homeKeeps", unfollowed := true, recurses := true, named := ["wicket/super.fields", "wicket/sum.halves"], apart := false, laid := [("wicket/sum.halves", laid_wicket_sum_halves), ("wicket/super.fields", laid_wicket_super_fields)] }
def HomeKeepsSaid : Prop := homeKeepsRow.holds Tryd.pinned (OpenSpec.ofChange homeKeepsSpec)

/-- ITS FALSE NEIGHBOUR: 'it returns false'. Refute it at one input. -/
def homeKeepsWrong : ChangeSpec := { name := "homeKeeps", fn := fun _ => fun
  | [d1, d2, d3, d4] => { results := [.lit (.bool false)], args := [d1, d2, d3, d4] }
  | _ => none }
def HomeKeepsWrongFalsely : Prop := homeKeepsRow.holds Tryd.pinned (OpenSpec.ofChange homeKeepsWrong)

/-- 'wicketlaw08.HomeBytes': WHATEVER THE INPUT: true; the input reads as it did. -/
def homeBytesSpec : ChangeSpec := { name := "homeBytes", fn := fun _ => fun
  | [d1, d2, d3] => { results := [.lit (.bool true)], args := [d1, d2, d3] }
  | _ => none }
def homeBytesRow : OpenClaim := { program := "ytpenddnmmfpdjaadoor", sum := "7964d907182b8ed965e316085fc77ee4e019e74a3e2625afff1c594fab58248c", func := "wicket/wicketlaw08.HomeBytes", spec := "homeBytes", named := ["wicket/sum.halves", "wicket/super.fields"], apart := false, laid := [("wicket/sum.halves", laid_wicket_sum_halves), ("wicket/super.fields", laid_wicket_super_fields)] }
def HomeBytesSaid : Prop := homeBytesRow.holds Tryd.pinned (OpenSpec.ofChange homeBytesSpec)

/-- ITS FALSE NEIGHBOUR: 'it returns false'. Refute it at one input. -/
def homeBytesWrong : ChangeSpec := { name := "homeBytes", fn := fun _ => fun
  | [d1, d2, d3] => { results := [.lit (.bool false)], args := [d1, d2, d3] }
  | _ => none }
def HomeBytesWrongFalsely : Prop := homeBytesRow.holds Tryd.pinned (OpenSpec.ofChange homeBytesWrong)

/-- 'wicketlaw08.HomeDisk': WHATEVER THE INPUT: true; the input reads as it did. -/
def homeDiskSpec : ChangeSpec := { name := "homeDisk", fn := fun _ => fun
  | [d1, d2] => { results := [.lit (.bool true)], args := [d1, d2] }
  | _ => none }
def homeDiskRow : OpenClaim := { program := "ytpenddnmmfpdjaadoor", sum := "7964d907182b8ed965e316085fc77ee4e019e74a3e2625afff1c594fab58248c", func := "wicket/wicketlaw08.HomeDisk", spec := "homeDisk", unfollowed := true, recurses := true, named := ["wicket/sum.halves", "wicket/super.fields"], apart := false, laid := [("wicket/sum.halves", laid_wicket_sum_halves), ("wicket/super.fields", laid_wicket_super_fields)] }
def HomeDiskSaid : Prop := homeDiskRow.holds Tryd.pinned (OpenSpec.ofChange homeDiskSpec)

/-- ITS FALSE NEIGHBOUR: 'it returns false'. Refute it at one input. -/
def homeDiskWrong : ChangeSpec := { name := "homeDisk", fn := fun _ => fun
  | [d1, d2] => { results := [.lit (.bool false)], args := [d1, d2] }
  | _ => none }
def HomeDiskWrongFalsely : Prop := homeDiskRow.holds Tryd.pinned (OpenSpec.ofChange homeDiskWrong)

/- THE SECOND FORM. 'bulk': how many values and letters a reading holds, each counted each time it is reached (what is shared counts as often as it is met; a slice's spare places count too). A statement '..UptoSaid' is the law's where the arguments, and the package variables that the reading takes, are together of bulk at most 1048576: NARROWER than '..Said'. Prove '..Said' where nothing that the law and all that it calls make is longer than what came in: it says more and counts as full. Else prove '..UptoSaid'. A law counts once. -/
mutual
def uptoBulk {H : Type} : DataW H → Nat
  | .lit (.string bytes) => bytes.length + 1
  | .lit _ => 1
  | .nil => 1
  | .ptr d => uptoBulk d + 1
  | .slice elems spare => uptoBulkAll elems + uptoBulkAll spare + 1
  | .agg parts => uptoBulkAll parts + 1
  | .iface _ d => uptoBulk d + 1
  | .map entries => uptoBulkEntries entries + 1
  | .held _ => 1
def uptoBulkAll {H : Type} : List (DataW H) → Nat
  | [] => 0
  | d :: r => uptoBulk d + uptoBulkAll r
def uptoBulkEntries {H : Type} : List (Lit × DataW H) → Nat
  | [] => 0
  | x :: r => uptoBulkEntry x + uptoBulkEntries r
def uptoBulkEntry {H : Type} : Lit × DataW H → Nat
  | (.string bytes, d) => bytes.length + uptoBulk d + 1
  | (_, d) => uptoBulk d + 1
 end
def uptoSmall : (H : Type) → List (DataW H) → Bool := fun _ ds => decide (uptoBulkAll ds ≤ 1048576)
def OpenSpec.upto (s : _root_.Go.ChangeSpec) : _root_.Go.OpenSpec := { _root_.Go.OpenSpec.ofChange s with cond := some uptoSmall }

/-- 'wicketlaw08.HomeBack', WHERE WHAT IT READS IS OF BULK AT MOST 1048576: true; the input reads as it did. -/
def homeBackUptoRow : OpenClaim := { program := "ytpenddnmmfpdjaadoor", sum := "7964d907182b8ed965e316085fc77ee4e019e74a3e2625afff1c594fab58248c", func := "wicket/wicketlaw08.HomeBack", spec := "homeBack", named := ["wicket/sum.halves", "wicket/super.fields"], apart := false, laid := [("wicket/sum.halves", laid_wicket_sum_halves), ("wicket/super.fields", laid_wicket_super_fields)], narrowed := true }
def HomeBackUptoSaid : Prop := homeBackUptoRow.holds Tryd.pinned (OpenSpec.upto homeBackSpec)

/-- 'wicketlaw08.HomeTurned', WHERE WHAT IT READS IS OF BULK AT MOST 1048576: true; the input reads as it did. -/
def homeTurnedUptoRow : OpenClaim := { program := "ytpenddnmmfpdjaadoor", sum := "7964d907182b8ed965e316085fc77ee4e019e74a3e2625afff1c594fab58248c", func := "wicket/wicketlaw08.HomeTurned", spec := "homeTurned", named := ["wicket/sum.halves", "wicket/super.fields"], apart := false, laid := [("wicket/sum.halves", laid_wicket_sum_halves), ("wicket/super.fields", laid_wicket_super_fields)], narrowed := true }
def HomeTurnedUptoSaid : Prop := homeTurnedUptoRow.holds Tryd.pinned (OpenSpec.upto homeTurnedSpec)

/-- 'wicketlaw08.HomeNames', WHERE WHAT IT READS IS OF BULK AT MOST 1048576: true; the input reads as it did. -/
def homeNamesUptoRow : OpenClaim := { program := "ytpenddnmmfpdjaadoor", sum := "7964d907182b8ed965e316085fc77ee4e019e74a3e2625afff1c594fab58248c", func := "wicket/wicketlaw08.HomeNames", spec := "homeNames", named := ["wicket/sum.halves", "wicket/super.fields"], apart := false, laid := [("wicket/sum.halves", laid_wicket_sum_halves), ("wicket/super.fields", laid_wicket_super_fields)], narrowed := true }
def HomeNamesUptoSaid : Prop := homeNamesUptoRow.holds Tryd.pinned (OpenSpec.upto homeNamesSpec)

/-- 'wicketlaw08.HomeKeeps', WHERE WHAT IT READS IS OF BULK AT MOST 1048576: true; the input reads as it did. -/
def homeKeepsUptoRow : OpenClaim := { program := "ytpenddnmmfpdjaadoor", sum := "7964d907182b8ed965e316085fc77ee4e019e74a3e2625afff1c594fab58248c", func := "wicket/wicketlaw08.HomeKeeps", spec := "homeKeeps", unfollowed := true, recurses := true, named := ["wicket/super.fields", "wicket/sum.halves"], apart := false, laid := [("wicket/sum.halves", laid_wicket_sum_halves), ("wicket/super.fields", laid_wicket_super_fields)], narrowed := true }
def HomeKeepsUptoSaid : Prop := homeKeepsUptoRow.holds Tryd.pinned (OpenSpec.upto homeKeepsSpec)

/-- 'wicketlaw08.HomeBytes', WHERE WHAT IT READS IS OF BULK AT MOST 1048576: true; the input reads as it did. -/
def homeBytesUptoRow : OpenClaim := { program := "ytpenddnmmfpdjaadoor", sum := "7964d907182b8ed965e316085fc77ee4e019e74a3e2625afff1c594fab58248c", func := "wicket/wicketlaw08.HomeBytes", spec := "homeBytes", named := ["wicket/sum.halves", "wicket/super.fields"], apart := false, laid := [("wicket/sum.halves", laid_wicket_sum_halves), ("wicket/super.fields", laid_wicket_super_fields)], narrowed := true }
def HomeBytesUptoSaid : Prop := homeBytesUptoRow.holds Tryd.pinned (OpenSpec.upto homeBytesSpec)

/-- 'wicketlaw08.HomeDisk', WHERE WHAT IT READS IS OF BULK AT MOST 1048576: true; the input reads as it did. -/
def homeDiskUptoRow : OpenClaim := { program := "ytpenddnmmfpdjaadoor", sum := "7964d907182b8ed965e316085fc77ee4e019e74a3e2625afff1c594fab58248c", func := "wicket/wicketlaw08.HomeDisk", spec := "homeDisk", unfollowed := true, recurses := true, named := ["wicket/sum.halves", "wicket/super.fields"], apart := false, laid := [("wicket/sum.halves", laid_wicket_sum_halves), ("wicket/super.fields", laid_wicket_super_fields)], narrowed := true }
def HomeDiskUptoSaid : Prop := homeDiskUptoRow.holds Tryd.pinned (OpenSpec.upto homeDiskSpec)

end Rows
end Go.Proofs.YtpenddnmmfpdjaaDoor
