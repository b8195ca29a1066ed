/-
  NARROWER THAN 'FOR EVERY INPUT', by the rows' own cells (each row's printed sentence says how): RedoAny: laid · RedoRuns: laid · RedoPlays: laid.
  DERIVED. THE GIVEN ROWS OF THIS SEAT. 3 by the template 'for every input the law returns true; each argument reads behind the call as it read before'; 0 by the template 'total and deterministic' (their statements: YtdadpepfpiimgaaGreatDoorTotals.lean).
  GIVEN WITH THE SEED: the statements are not yours to turn. If you find one false, say at which input.
  Laid BY PROGRAM, IN A SANDBOX (cutbox-rows.mjs): the forced cells as the released guide's own fill.sh prints them over the translation 266e1eed42884bc8… (all of the seat's roots in one cut). By AI agents, Wed Nov 11 2026. No macro, syntax, notation, axiom, sorry.
-/
import Derived.Test.YtdadpepfpiimgaaGreatDoorChecked
import GoSem.Claim
import GoSem.ClaimJoined
import GoSem.ClaimMapViews
import Derived.JoinedTies
import Derived.KernelRfl
namespace Go.Proofs.YtdadpepfpiimgaaGreatDoor
/- THE CELL 'sum', in the pinned program and in every row, IS THE sha256 OF THE DUMP (.gsa) THAT YtdadpepfpiimgaaGreatDoorProg.lean LOADS. Nothing in Lean hashes anything: it is a label: what it is worth is what the hold of that sum in a sandbox is worth. -/
noncomputable def Tryz.pinned : Pinned := { name := "ytdadpepfpiimgaagreatdoor", sum := "266e1eed42884bc882927819dac95c030436235aeab164d8f131cb628e115b0e", checked := Tryz.checked }
namespace Rows
def none {H : Type} : Left H := { results := [], args := [] }

/- WHAT THE LISTED PACKAGE-LEVEL VARIABLES READ AS WHEN THE CALL BEGINS. Each datum BY PROGRAM (the guide's laid-datum.mjs) off the statement by which the dump's own 'gosem.cut.vars' lays the variable. In a bare row this is a premise. The card (YtdadpepfpiimgaaGreatDoorCards.lean) ties it to the program's text. -/
def laid_wicket_sum_halves {H : Type} : DataW H := .agg [.lit (.int .u32 0), .lit (.int .u32 498536548), .lit (.int .u32 997073096), .lit (.int .u32 651767980), .lit (.int .u32 1994146192), .lit (.int .u32 1802195444), .lit (.int .u32 1303535960), .lit (.int .u32 1342533948), .lit (.int .u32 3988292384), .lit (.int .u32 4027552580), .lit (.int .u32 3604390888), .lit (.int .u32 3412177804), .lit (.int .u32 2607071920), .lit (.int .u32 2262029012), .lit (.int .u32 2685067896), .lit (.int .u32 3183342108)]
def laid_wicket_super_fields {H : Type} : DataW H := .agg [.agg [.lit (.int .i64 6), .lit (.int .i64 1)], .agg [.lit (.int .i64 8), .lit (.int .i64 1)], .agg [.lit (.int .i64 9), .lit (.int .i64 1)], .agg [.lit (.int .i64 10), .lit (.int .i64 1)], .agg [.lit (.int .i64 11), .lit (.int .i64 1)], .agg [.lit (.int .i64 12), .lit (.int .i64 1)], .agg [.lit (.int .i64 16), .lit (.int .i64 8)], .agg [.lit (.int .i64 24), .lit (.int .i64 8)]]

/-- 'wicketlaw21.RedoAny': WHATEVER THE INPUT: true; the input reads as it did. -/
def redoAnySpec : ChangeSpec := { name := "redoAny", fn := fun _ => fun
  | [d1, d2] => { results := [.lit (.bool true)], args := [d1, d2] }
  | _ => none }
def redoAnyRow : OpenClaim := { program := "ytdadpepfpiimgaagreatdoor", sum := "266e1eed42884bc882927819dac95c030436235aeab164d8f131cb628e115b0e", func := "wicket/wicketlaw21.RedoAny", spec := "redoAny", unfollowed := true, recurses := true, named := ["wicket/super.fields", "wicket/sum.halves"], apart := false, laid := [("wicket/sum.halves", laid_wicket_sum_halves), ("wicket/super.fields", laid_wicket_super_fields)] }
def RedoAnySaid : Prop := redoAnyRow.holds Tryz.pinned (OpenSpec.ofChange redoAnySpec)

/-- ITS FALSE NEIGHBOUR: 'it returns false'. Refute it at one input. -/
def redoAnyWrong : ChangeSpec := { name := "redoAny", fn := fun _ => fun
  | [d1, d2] => { results := [.lit (.bool false)], args := [d1, d2] }
  | _ => none }
def RedoAnyWrongFalsely : Prop := redoAnyRow.holds Tryz.pinned (OpenSpec.ofChange redoAnyWrong)

/-- 'wicketlaw21.RedoRuns': WHATEVER THE INPUT: true; the input reads as it did. -/
def redoRunsSpec : ChangeSpec := { name := "redoRuns", fn := fun _ => fun
  | [d1, d2, d3, d4, d5] => { results := [.lit (.bool true)], args := [d1, d2, d3, d4, d5] }
  | _ => none }
def redoRunsRow : OpenClaim := { program := "ytdadpepfpiimgaagreatdoor", sum := "266e1eed42884bc882927819dac95c030436235aeab164d8f131cb628e115b0e", func := "wicket/wicketlaw21.RedoRuns", spec := "redoRuns", unfollowed := true, recurses := true, named := ["wicket/super.fields", "wicket/sum.halves"], apart := false, laid := [("wicket/sum.halves", laid_wicket_sum_halves), ("wicket/super.fields", laid_wicket_super_fields)] }
def RedoRunsSaid : Prop := redoRunsRow.holds Tryz.pinned (OpenSpec.ofChange redoRunsSpec)

/-- ITS FALSE NEIGHBOUR: 'it returns false'. Refute it at one input. -/
def redoRunsWrong : ChangeSpec := { name := "redoRuns", fn := fun _ => fun
  | [d1, d2, d3, d4, d5] => { results := [.lit (.bool false)], args := [d1, d2, d3, d4, d5] }
  | _ => none }
def RedoRunsWrongFalsely : Prop := redoRunsRow.holds Tryz.pinned (OpenSpec.ofChange redoRunsWrong)

/-- 'wicketlaw21.RedoPlays': WHATEVER THE INPUT: true; the input reads as it did. -/
def redoPlaysSpec : ChangeSpec := { name := "redoPlays", fn := fun _ => fun
  | [d1, d2, d3] => { results := [.lit (.bool true)], args := [d1, d2, d3] }
  | _ => none }
def redoPlaysRow : OpenClaim := { program := "ytdadpepfpiimgaagreatdoor", sum := "266e1eed42884bc882927819dac95c030436235aeab164d8f131cb628e115b0e", func := "wicket/wicketlaw21.RedoPlays", spec := "redoPlays", unfollowed := true, recurses := true, named := ["wicket/super.fields", "wicket/sum.halves"], apart := false, laid := [("wicket/sum.halves", laid_wicket_sum_halves), ("wicket/super.fields", laid_wicket_super_fields)] }
def RedoPlaysSaid : Prop := redoPlaysRow.holds Tryz.pinned (OpenSpec.ofChange redoPlaysSpec)

/-- ITS FALSE NEIGHBOUR: 'it returns false'. Refute it at one input. -/
def redoPlaysWrong : ChangeSpec := { name := "redoPlays", fn := fun _ => fun
  | [d1, d2, d3] => { results := [.lit (.bool false)], args := [d1, d2, d3] }
  | _ => none }
def RedoPlaysWrongFalsely : Prop := redoPlaysRow.holds Tryz.pinned (OpenSpec.ofChange redoPlaysWrong)

/- THE SECOND FORM. 'bulk': how many values and letters a reading holds, each counted each time it is reached (what is shared counts as often as it is met; a slice's spare places count too). A statement '..UptoSaid' is the law's where the arguments, and the package variables that the reading takes, are together of bulk at most 1048576: NARROWER than '..Said'. Prove '..Said' where nothing that the law and all that it calls make is longer than what came in: it says more and counts as full. Else prove '..UptoSaid'. A law counts once. -/
mutual
def uptoBulk {H : Type} : DataW H → Nat
  | .lit (.string bytes) => bytes.length + 1
  | .lit _ => 1
  | .nil => 1
  | .ptr d => uptoBulk d + 1
  | .slice elems spare => uptoBulkAll elems + uptoBulkAll spare + 1
  | .agg parts => uptoBulkAll parts + 1
  | .iface _ d => uptoBulk d + 1
  | .map entries => uptoBulkEntries entries + 1
  | .held _ => 1
def uptoBulkAll {H : Type} : List (DataW H) → Nat
  | [] => 0
  | d :: r => uptoBulk d + uptoBulkAll r
def uptoBulkEntries {H : Type} : List (Lit × DataW H) → Nat
  | [] => 0
  | x :: r => uptoBulkEntry x + uptoBulkEntries r
def uptoBulkEntry {H : Type} : Lit × DataW H → Nat
  | (.string bytes, d) => bytes.length + uptoBulk d + 1
  | (_, d) => uptoBulk d + 1
 end
def uptoSmall : (H : Type) → List (DataW H) → Bool := fun _ ds => decide (uptoBulkAll ds ≤ 1048576)
def OpenSpec.upto (s : _root_.Go.ChangeSpec) : _root_.Go.OpenSpec := { _root_.Go.OpenSpec.ofChange s with cond := some uptoSmall }

/-- 'wicketlaw21.RedoAny', WHERE WHAT IT READS IS OF BULK AT MOST 1048576: true; the input reads as it did. -/
def redoAnyUptoRow : OpenClaim := { program := "ytdadpepfpiimgaagreatdoor", sum := "266e1eed42884bc882927819dac95c030436235aeab164d8f131cb628e115b0e", func := "wicket/wicketlaw21.RedoAny", spec := "redoAny", unfollowed := true, recurses := true, named := ["wicket/super.fields", "wicket/sum.halves"], apart := false, laid := [("wicket/sum.halves", laid_wicket_sum_halves), ("wicket/super.fields", laid_wicket_super_fields)], narrowed := true }
def RedoAnyUptoSaid : Prop := redoAnyUptoRow.holds Tryz.pinned (OpenSpec.upto redoAnySpec)

/-- 'wicketlaw21.RedoRuns', WHERE WHAT IT READS IS OF BULK AT MOST 1048576: true; the input reads as it did. -/
def redoRunsUptoRow : OpenClaim := { program := "ytdadpepfpiimgaagreatdoor", sum := "266e1eed42884bc882927819dac95c030436235aeab164d8f131cb628e115b0e", func := "wicket/wicketlaw21.RedoRuns", spec := "redoRuns", unfollowed := true, recurses := true, named := ["wicket/super.fields", "wicket/sum.halves"], apart := false, laid := [("wicket/sum.halves", laid_wicket_sum_halves), ("wicket/super.fields", laid_wicket_super_fields)], narrowed := true }
def RedoRunsUptoSaid : Prop := redoRunsUptoRow.holds Tryz.pinned (OpenSpec.upto redoRunsSpec)

/-- 'wicketlaw21.RedoPlays', WHERE WHAT IT READS IS OF BULK AT MOST 1048576: true; the input reads as it did. -/
def redoPlaysUptoRow : OpenClaim := { program := "ytdadpepfpiimgaagreatdoor", sum := "266e1eed42884bc882927819dac95c030436235aeab164d8f131cb628e115b0e", func := "wicket/wicketlaw21.RedoPlays", spec := "redoPlays", unfollowed := true, recurses := true, named := ["wicket/super.fields", "wicket/sum.halves"], apart := false, laid := [("wicket/sum.halves", laid_wicket_sum_halves), ("wicket/super.fields", laid_wicket_super_fields)], narrowed := true }
def RedoPlaysUptoSaid : Prop := redoPlaysUptoRow.holds Tryz.pinned (OpenSpec.upto redoPlaysSpec)

end Rows
end Go.Proofs.YtdadpepfpiimgaaGreatDoor
