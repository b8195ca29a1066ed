/-
  NARROWER THAN 'FOR EVERY INPUT', by the rows' own cells (each row's printed sentence says how): PointKeeps: laid · PointRound: laid · PointNames: laid · PointPlays: laid · PointHand: laid.
  DERIVED. THE GIVEN ROWS OF THIS SEAT. 5 by the template 'for every input the law returns true; each argument reads behind the call as it read before'; 0 by the template 'total and deterministic' (their statements: YtcdjepkhdjpjcaaGreatDoorTotals.lean).
  GIVEN WITH THE SEED: the statements are not yours to turn. If you find one false, say at which input.
  Laid BY PROGRAM, IN A SANDBOX (cutbox-rows.mjs): the forced cells as the released guide's own fill.sh prints them over the translation 32811ec7be8dda1d… (all of the seat's roots in one cut). By AI agents, Wed Nov 11 2026. No macro, syntax, notation, axiom, sorry.
-/
import Derived.Test.YtcdjepkhdjpjcaaGreatDoorChecked
import GoSem.Claim
import GoSem.ClaimJoined
import GoSem.ClaimMapViews
import Derived.JoinedTies
import Derived.KernelRfl
namespace Go.Proofs.YtcdjepkhdjpjcaaGreatDoor
/- THE CELL 'sum', in the pinned program and in every row, IS THE sha256 OF THE DUMP (.gsa) THAT YtcdjepkhdjpjcaaGreatDoorProg.lean LOADS. Nothing in Lean hashes anything: it is a label: what it is worth is what the hold of that sum in a sandbox is worth. -/
noncomputable def Tryz.pinned : Pinned := { name := "ytcdjepkhdjpjcaagreatdoor", sum := "32811ec7be8dda1d3b19072c5846f32e0b330aa2a4c95a68fbcba3278b8a6145", checked := Tryz.checked }
namespace Rows
def none {H : Type} : Left H := { results := [], args := [] }

/- WHAT THE LISTED PACKAGE-LEVEL VARIABLES READ AS WHEN THE CALL BEGINS. Each datum BY PROGRAM (the guide's laid-datum.mjs) off the statement by which the dump's own 'gosem.cut.vars' lays the variable. In a bare row this is a premise. The card (YtcdjepkhdjpjcaaGreatDoorCards.lean) ties it to the program's text. -/
def laid_wicket_sum_halves {H : Type} : DataW H := .agg [.lit (.int .u32 0), .lit (.int .u32 498536548), .lit (.int .u32 997073096), .lit (.int .u32 651767980), .lit (.int .u32 1994146192), .lit (.int .u32 1802195444), .lit (.int .u32 1303535960), .lit (.int .u32 1342533948), .lit (.int .u32 3988292384), .lit (.int .u32 4027552580), .lit (.int .u32 3604390888), .lit (.int .u32 3412177804), .lit (.int .u32 2607071920), .lit (.int .u32 2262029012), .lit (.int .u32 2685067896), .lit (.int .u32 3183342108)]
def laid_wicket_super_fields {H : Type} : DataW H := .agg [.agg [.lit (.int .i64 6), .lit (.int .i64 1)], .agg [.lit (.int .i64 8), .lit (.int .i64 1)], .agg [.lit (.int .i64 9), .lit (.int .i64 1)], .agg [.lit (.int .i64 10), .lit (.int .i64 1)], .agg [.lit (.int .i64 11), .lit (.int .i64 1)], .agg [.lit (.int .i64 12), .lit (.int .i64 1)], .agg [.lit (.int .i64 16), .lit (.int .i64 8)], .agg [.lit (.int .i64 24), .lit (.int .i64 8)]]

/-- 'wicketlaw20.PointKeeps': WHATEVER THE INPUT: true; the input reads as it did. -/
def pointKeepsSpec : ChangeSpec := { name := "pointKeeps", fn := fun _ => fun
  | [d1, d2, d3, d4] => { results := [.lit (.bool true)], args := [d1, d2, d3, d4] }
  | _ => none }
def pointKeepsRow : OpenClaim := { program := "ytcdjepkhdjpjcaagreatdoor", sum := "32811ec7be8dda1d3b19072c5846f32e0b330aa2a4c95a68fbcba3278b8a6145", func := "wicket/wicketlaw20.PointKeeps", spec := "pointKeeps", inPlace := ["slices.overlaps[wicket/cache.Entry]"], unfollowed := true, recurses := true, named := ["wicket/super.fields", "wicket/sum.halves"], apart := false, laid := [("wicket/sum.halves", laid_wicket_sum_halves), ("wicket/super.fields", laid_wicket_super_fields)] }
def PointKeepsSaid : Prop := pointKeepsRow.holds Tryz.pinned (OpenSpec.ofChange pointKeepsSpec)

/-- ITS FALSE NEIGHBOUR: 'it returns false'. Refute it at one input. -/
def pointKeepsWrong : ChangeSpec := { name := "pointKeeps", fn := fun _ => fun
  | [d1, d2, d3, d4] => { results := [.lit (.bool false)], args := [d1, d2, d3, d4] }
  | _ => none }
def PointKeepsWrongFalsely : Prop := pointKeepsRow.holds Tryz.pinned (OpenSpec.ofChange pointKeepsWrong)

/-- 'wicketlaw20.PointRound': WHATEVER THE INPUT: true; the input reads as it did. -/
def pointRoundSpec : ChangeSpec := { name := "pointRound", fn := fun _ => fun
  | [d1, d2] => { results := [.lit (.bool true)], args := [d1, d2] }
  | _ => none }
def pointRoundRow : OpenClaim := { program := "ytcdjepkhdjpjcaagreatdoor", sum := "32811ec7be8dda1d3b19072c5846f32e0b330aa2a4c95a68fbcba3278b8a6145", func := "wicket/wicketlaw20.PointRound", spec := "pointRound", inPlace := ["slices.overlaps[wicket/cache.Entry]"], unfollowed := true, recurses := true, named := ["wicket/super.fields", "wicket/sum.halves"], apart := false, laid := [("wicket/sum.halves", laid_wicket_sum_halves), ("wicket/super.fields", laid_wicket_super_fields)] }
def PointRoundSaid : Prop := pointRoundRow.holds Tryz.pinned (OpenSpec.ofChange pointRoundSpec)

/-- ITS FALSE NEIGHBOUR: 'it returns false'. Refute it at one input. -/
def pointRoundWrong : ChangeSpec := { name := "pointRound", fn := fun _ => fun
  | [d1, d2] => { results := [.lit (.bool false)], args := [d1, d2] }
  | _ => none }
def PointRoundWrongFalsely : Prop := pointRoundRow.holds Tryz.pinned (OpenSpec.ofChange pointRoundWrong)

/-- 'wicketlaw20.PointNames': WHATEVER THE INPUT: true; the input reads as it did. -/
def pointNamesSpec : ChangeSpec := { name := "pointNames", fn := fun _ => fun
  | [] => { results := [.lit (.bool true)], args := [] }
  | _ => none }
def pointNamesRow : OpenClaim := { program := "ytcdjepkhdjpjcaagreatdoor", sum := "32811ec7be8dda1d3b19072c5846f32e0b330aa2a4c95a68fbcba3278b8a6145", func := "wicket/wicketlaw20.PointNames", spec := "pointNames", inPlace := ["slices.overlaps[wicket/cache.Entry]"], unfollowed := true, recurses := true, named := ["wicket/super.fields", "wicket/sum.halves"], apart := false, laid := [("wicket/sum.halves", laid_wicket_sum_halves), ("wicket/super.fields", laid_wicket_super_fields)] }
def PointNamesSaid : Prop := pointNamesRow.holds Tryz.pinned (OpenSpec.ofChange pointNamesSpec)

/-- ITS FALSE NEIGHBOUR: 'it returns false'. Refute it at one input. -/
def pointNamesWrong : ChangeSpec := { name := "pointNames", fn := fun _ => fun
  | [] => { results := [.lit (.bool false)], args := [] }
  | _ => none }
def PointNamesWrongFalsely : Prop := pointNamesRow.holds Tryz.pinned (OpenSpec.ofChange pointNamesWrong)

/-- 'wicketlaw20.PointPlays': WHATEVER THE INPUT: true; the input reads as it did. -/
def pointPlaysSpec : ChangeSpec := { name := "pointPlays", fn := fun _ => fun
  | [d1, d2] => { results := [.lit (.bool true)], args := [d1, d2] }
  | _ => none }
def pointPlaysRow : OpenClaim := { program := "ytcdjepkhdjpjcaagreatdoor", sum := "32811ec7be8dda1d3b19072c5846f32e0b330aa2a4c95a68fbcba3278b8a6145", func := "wicket/wicketlaw20.PointPlays", spec := "pointPlays", inPlace := ["slices.overlaps[wicket/cache.Entry]"], unfollowed := true, recurses := true, named := ["wicket/super.fields", "wicket/sum.halves"], apart := false, laid := [("wicket/sum.halves", laid_wicket_sum_halves), ("wicket/super.fields", laid_wicket_super_fields)] }
def PointPlaysSaid : Prop := pointPlaysRow.holds Tryz.pinned (OpenSpec.ofChange pointPlaysSpec)

/-- ITS FALSE NEIGHBOUR: 'it returns false'. Refute it at one input. -/
def pointPlaysWrong : ChangeSpec := { name := "pointPlays", fn := fun _ => fun
  | [d1, d2] => { results := [.lit (.bool false)], args := [d1, d2] }
  | _ => none }
def PointPlaysWrongFalsely : Prop := pointPlaysRow.holds Tryz.pinned (OpenSpec.ofChange pointPlaysWrong)

/-- 'wicketlaw20.PointHand': WHATEVER THE INPUT: true; the input reads as it did. -/
def pointHandSpec : ChangeSpec := { name := "pointHand", fn := fun _ => fun
  | [d1, d2] => { results := [.lit (.bool true)], args := [d1, d2] }
  | _ => none }
def pointHandRow : OpenClaim := { program := "ytcdjepkhdjpjcaagreatdoor", sum := "32811ec7be8dda1d3b19072c5846f32e0b330aa2a4c95a68fbcba3278b8a6145", func := "wicket/wicketlaw20.PointHand", spec := "pointHand", inPlace := ["slices.overlaps[wicket/cache.Entry]"], unfollowed := true, recurses := true, named := ["wicket/super.fields", "wicket/sum.halves"], apart := false, laid := [("wicket/sum.halves", laid_wicket_sum_halves), ("wicket/super.fields", laid_wicket_super_fields)] }
def PointHandSaid : Prop := pointHandRow.holds Tryz.pinned (OpenSpec.ofChange pointHandSpec)

/-- ITS FALSE NEIGHBOUR: 'it returns false'. Refute it at one input. -/
def pointHandWrong : ChangeSpec := { name := "pointHand", fn := fun _ => fun
  | [d1, d2] => { results := [.lit (.bool false)], args := [d1, d2] }
  | _ => none }
def PointHandWrongFalsely : Prop := pointHandRow.holds Tryz.pinned (OpenSpec.ofChange pointHandWrong)

/- THE SECOND FORM. 'bulk': how many values and letters a reading holds, each counted each time it is reached (what is shared counts as often as it is met; a slice's spare places count too). A statement '..UptoSaid' is the law's where the arguments, and the package variables that the reading takes, are together of bulk at most 1048576: NARROWER than '..Said'. Prove '..Said' where nothing that the law and all that it calls make is longer than what came in: it says more and counts as full. Else prove '..UptoSaid'. A law counts once. -/
mutual
def uptoBulk {H : Type} : DataW H → Nat
  | .lit (.string bytes) => bytes.length + 1
  | .lit _ => 1
  | .nil => 1
  | .ptr d => uptoBulk d + 1
  | .slice elems spare => uptoBulkAll elems + uptoBulkAll spare + 1
  | .agg parts => uptoBulkAll parts + 1
  | .iface _ d => uptoBulk d + 1
  | .map entries => uptoBulkEntries entries + 1
  | .held _ => 1
def uptoBulkAll {H : Type} : List (DataW H) → Nat
  | [] => 0
  | d :: r => uptoBulk d + uptoBulkAll r
def uptoBulkEntries {H : Type} : List (Lit × DataW H) → Nat
  | [] => 0
  | x :: r => uptoBulkEntry x + uptoBulkEntries r
def uptoBulkEntry {H : Type} : Lit × DataW H → Nat
  | (.string bytes, d) => bytes.length + uptoBulk d + 1
  | (_, d) => uptoBulk d + 1
 end
def uptoSmall : (H : Type) → List (DataW H) → Bool := fun _ ds => decide (uptoBulkAll ds ≤ 1048576)
def OpenSpec.upto (s : _root_.Go.ChangeSpec) : _root_.Go.OpenSpec := { _root_.Go.OpenSpec.ofChange s with cond := some uptoSmall }

/-- 'wicketlaw20.PointKeeps', WHERE WHAT IT READS IS OF BULK AT MOST 1048576: true; the input reads as it did. -/
def pointKeepsUptoRow : OpenClaim := { program := "ytcdjepkhdjpjcaagreatdoor", sum := "32811ec7be8dda1d3b19072c5846f32e0b330aa2a4c95a68fbcba3278b8a6145", func := "wicket/wicketlaw20.PointKeeps", spec := "pointKeeps", inPlace := ["slices.overlaps[wicket/cache.Entry]"], unfollowed := true, recurses := true, named := ["wicket/super.fields", "wicket/sum.halves"], apart := false, laid := [("wicket/sum.halves", laid_wicket_sum_halves), ("wicket/super.fields", laid_wicket_super_fields)], narrowed := true }
def PointKeepsUptoSaid : Prop := pointKeepsUptoRow.holds Tryz.pinned (OpenSpec.upto pointKeepsSpec)

/-- 'wicketlaw20.PointRound', WHERE WHAT IT READS IS OF BULK AT MOST 1048576: true; the input reads as it did. -/
def pointRoundUptoRow : OpenClaim := { program := "ytcdjepkhdjpjcaagreatdoor", sum := "32811ec7be8dda1d3b19072c5846f32e0b330aa2a4c95a68fbcba3278b8a6145", func := "wicket/wicketlaw20.PointRound", spec := "pointRound", inPlace := ["slices.overlaps[wicket/cache.Entry]"], unfollowed := true, recurses := true, named := ["wicket/super.fields", "wicket/sum.halves"], apart := false, laid := [("wicket/sum.halves", laid_wicket_sum_halves), ("wicket/super.fields", laid_wicket_super_fields)], narrowed := true }
def PointRoundUptoSaid : Prop := pointRoundUptoRow.holds Tryz.pinned (OpenSpec.upto pointRoundSpec)

/-- 'wicketlaw20.PointNames', WHERE WHAT IT READS IS OF BULK AT MOST 1048576: true; the input reads as it did. -/
def pointNamesUptoRow : OpenClaim := { program := "ytcdjepkhdjpjcaagreatdoor", sum := "32811ec7be8dda1d3b19072c5846f32e0b330aa2a4c95a68fbcba3278b8a6145", func := "wicket/wicketlaw20.PointNames", spec := "pointNames", inPlace := ["slices.overlaps[wicket/cache.Entry]"], unfollowed := true, recurses := true, named := ["wicket/super.fields", "wicket/sum.halves"], apart := false, laid := [("wicket/sum.halves", laid_wicket_sum_halves), ("wicket/super.fields", laid_wicket_super_fields)], narrowed := true }
def PointNamesUptoSaid : Prop := pointNamesUptoRow.holds Tryz.pinned (OpenSpec.upto pointNamesSpec)

/-- 'wicketlaw20.PointPlays', WHERE WHAT IT READS IS OF BULK AT MOST 1048576: true; the input reads as it did. -/
def pointPlaysUptoRow : OpenClaim := { program := "ytcdjepkhdjpjcaagreatdoor", sum := "32811ec7be8dda1d3b19072c5846f32e0b330aa2a4c95a68fbcba3278b8a6145", func := "wicket/wicketlaw20.PointPlays", spec := "pointPlays", inPlace := ["slices.overlaps[wicket/cache.Entry]"], unfollowed := true, recurses := true, named := ["wicket/super.fields", "wicket/sum.halves"], apart := false, laid := [("wicket/sum.halves", laid_wicket_sum_halves), ("wicket/super.fields", laid_wicket_super_fields)], narrowed := true }
def PointPlaysUptoSaid : Prop := pointPlaysUptoRow.holds Tryz.pinned (OpenSpec.upto pointPlaysSpec)

/-- 'wicketlaw20.PointHand', WHERE WHAT IT READS IS OF BULK AT MOST 1048576: true; the input reads as it did. -/
def pointHandUptoRow : OpenClaim := { program := "ytcdjepkhdjpjcaagreatdoor", sum := "32811ec7be8dda1d3b19072c5846f32e0b330aa2a4c95a68fbcba3278b8a6145", func := "wicket/wicketlaw20.PointHand", spec := "pointHand", inPlace := ["slices.overlaps[wicket/cache.Entry]"], unfollowed := true, recurses := true, named := ["wicket/super.fields", "wicket/sum.halves"], apart := false, laid := [("wicket/sum.halves", laid_wicket_sum_halves), ("wicket/super.fields", laid_wicket_super_fields)], narrowed := true }
def PointHandUptoSaid : Prop := pointHandUptoRow.holds Tryz.pinned (OpenSpec.upto pointHandSpec)

end Rows
end Go.Proofs.YtcdjepkhdjpjcaaGreatDoor
