/-
  No cell of these rows narrows 'for every input' (looked for: loops, veiled, ifaces, maps, wideKeys, modest, calm, conditions, laid).
  DERIVED. THE GIVEN ROWS OF THIS SEAT. 3 by the template 'for every input the law returns true; each argument reads behind the call as it read before'; 0 by the template 'total and deterministic' (their statements: YtkgjmejpbklabaaGreatTotals.lean).
  GIVEN WITH THE SEED: the statements are not yours to turn. If you find one false, say at which input.
  Laid BY PROGRAM, IN A SANDBOX (cutbox-rows.mjs): the forced cells as the released guide's own fill.sh prints them over the translation 793b266484dd6d96… (all of the seat's roots in one cut). By AI agents, Wed Nov 11 2026. No macro, syntax, notation, axiom, sorry.
-/
import Derived.Test.YtkgjmejpbklabaaGreatChecked
import GoSem.Claim
import GoSem.ClaimJoined
import GoSem.ClaimMapViews
import Derived.JoinedTies
import Derived.KernelRfl
namespace Go.Proofs.YtkgjmejpbklabaaGreat
/- THE CELL 'sum', in the pinned program and in every row, IS THE sha256 OF THE DUMP (.gsa) THAT YtkgjmejpbklabaaGreatProg.lean LOADS. Nothing in Lean hashes anything: it is a label: what it is worth is what the hold of that sum in a sandbox is worth. -/
noncomputable def Tryz.pinned : Pinned := { name := "ytkgjmejpbklabaagreat", sum := "793b266484dd6d96a4ca0e668c8d2bbb175dc3e9a630b48cb4f2aa269d36b69e", checked := Tryz.checked }
namespace Rows
def none {H : Type} : Left H := { results := [], args := [] }

/-- 'wicketlaw15.WaitsNone': WHATEVER THE INPUT: true; the input reads as it did. -/
def waitsNoneSpec : ChangeSpec := { name := "waitsNone", fn := fun _ => fun
  | [] => { results := [.lit (.bool true)], args := [] }
  | _ => none }
def waitsNoneRow : OpenClaim := { program := "ytkgjmejpbklabaagreat", sum := "793b266484dd6d96a4ca0e668c8d2bbb175dc3e9a630b48cb4f2aa269d36b69e", func := "wicket/wicketlaw15.WaitsNone", spec := "waitsNone", unfollowed := true, recurses := true, apart := false }
def WaitsNoneSaid : Prop := waitsNoneRow.holds Tryz.pinned (OpenSpec.ofChange waitsNoneSpec)

/-- ITS FALSE NEIGHBOUR: 'it returns false'. Refute it at one input. -/
def waitsNoneWrong : ChangeSpec := { name := "waitsNone", fn := fun _ => fun
  | [] => { results := [.lit (.bool false)], args := [] }
  | _ => none }
def WaitsNoneWrongFalsely : Prop := waitsNoneRow.holds Tryz.pinned (OpenSpec.ofChange waitsNoneWrong)

/-- 'wicketlaw15.WaitsDown': WHATEVER THE INPUT: true; the input reads as it did. -/
def waitsDownSpec : ChangeSpec := { name := "waitsDown", fn := fun _ => fun
  | [d1, d2] => { results := [.lit (.bool true)], args := [d1, d2] }
  | _ => none }
def waitsDownRow : OpenClaim := { program := "ytkgjmejpbklabaagreat", sum := "793b266484dd6d96a4ca0e668c8d2bbb175dc3e9a630b48cb4f2aa269d36b69e", func := "wicket/wicketlaw15.WaitsDown", spec := "waitsDown", unfollowed := true, recurses := true, apart := false }
def WaitsDownSaid : Prop := waitsDownRow.holds Tryz.pinned (OpenSpec.ofChange waitsDownSpec)

/-- ITS FALSE NEIGHBOUR: 'it returns false'. Refute it at one input. -/
def waitsDownWrong : ChangeSpec := { name := "waitsDown", fn := fun _ => fun
  | [d1, d2] => { results := [.lit (.bool false)], args := [d1, d2] }
  | _ => none }
def WaitsDownWrongFalsely : Prop := waitsDownRow.holds Tryz.pinned (OpenSpec.ofChange waitsDownWrong)

/-- 'wicketlaw15.WaitsOf': WHATEVER THE INPUT: true; the input reads as it did. -/
def waitsOfSpec : ChangeSpec := { name := "waitsOf", fn := fun _ => fun
  | [d1, d2] => { results := [.lit (.bool true)], args := [d1, d2] }
  | _ => none }
def waitsOfRow : OpenClaim := { program := "ytkgjmejpbklabaagreat", sum := "793b266484dd6d96a4ca0e668c8d2bbb175dc3e9a630b48cb4f2aa269d36b69e", func := "wicket/wicketlaw15.WaitsOf", spec := "waitsOf", unfollowed := true, recurses := true, apart := false }
def WaitsOfSaid : Prop := waitsOfRow.holds Tryz.pinned (OpenSpec.ofChange waitsOfSpec)

/-- ITS FALSE NEIGHBOUR: 'it returns false'. Refute it at one input. -/
def waitsOfWrong : ChangeSpec := { name := "waitsOf", fn := fun _ => fun
  | [d1, d2] => { results := [.lit (.bool false)], args := [d1, d2] }
  | _ => none }
def WaitsOfWrongFalsely : Prop := waitsOfRow.holds Tryz.pinned (OpenSpec.ofChange waitsOfWrong)

/- THE SECOND FORM. 'bulk': how many values and letters a reading holds, each counted each time it is reached (what is shared counts as often as it is met; a slice's spare places count too). A statement '..UptoSaid' is the law's where the arguments, and the package variables that the reading takes, are together of bulk at most 1048576: NARROWER than '..Said'. Prove '..Said' where nothing that the law and all that it calls make is longer than what came in: it says more and counts as full. Else prove '..UptoSaid'. A law counts once. -/
mutual
def uptoBulk {H : Type} : DataW H → Nat
  | .lit (.string bytes) => bytes.length + 1
  | .lit _ => 1
  | .nil => 1
  | .ptr d => uptoBulk d + 1
  | .slice elems spare => uptoBulkAll elems + uptoBulkAll spare + 1
  | .agg parts => uptoBulkAll parts + 1
  | .iface _ d => uptoBulk d + 1
  | .map entries => uptoBulkEntries entries + 1
  | .held _ => 1
def uptoBulkAll {H : Type} : List (DataW H) → Nat
  | [] => 0
  | d :: r => uptoBulk d + uptoBulkAll r
def uptoBulkEntries {H : Type} : List (Lit × DataW H) → Nat
  | [] => 0
  | x :: r => uptoBulkEntry x + uptoBulkEntries r
def uptoBulkEntry {H : Type} : Lit × DataW H → Nat
  | (.string bytes, d) => bytes.length + uptoBulk d + 1
  | (_, d) => uptoBulk d + 1
 end
def uptoSmall : (H : Type) → List (DataW H) → Bool := fun _ ds => decide (uptoBulkAll ds ≤ 1048576)
def OpenSpec.upto (s : _root_.Go.ChangeSpec) : _root_.Go.OpenSpec := { _root_.Go.OpenSpec.ofChange s with cond := some uptoSmall }

/-- 'wicketlaw15.WaitsNone', WHERE WHAT IT READS IS OF BULK AT MOST 1048576: true; the input reads as it did. -/
def waitsNoneUptoRow : OpenClaim := { program := "ytkgjmejpbklabaagreat", sum := "793b266484dd6d96a4ca0e668c8d2bbb175dc3e9a630b48cb4f2aa269d36b69e", func := "wicket/wicketlaw15.WaitsNone", spec := "waitsNone", unfollowed := true, recurses := true, apart := false, narrowed := true }
def WaitsNoneUptoSaid : Prop := waitsNoneUptoRow.holds Tryz.pinned (OpenSpec.upto waitsNoneSpec)

/-- 'wicketlaw15.WaitsDown', WHERE WHAT IT READS IS OF BULK AT MOST 1048576: true; the input reads as it did. -/
def waitsDownUptoRow : OpenClaim := { program := "ytkgjmejpbklabaagreat", sum := "793b266484dd6d96a4ca0e668c8d2bbb175dc3e9a630b48cb4f2aa269d36b69e", func := "wicket/wicketlaw15.WaitsDown", spec := "waitsDown", unfollowed := true, recurses := true, apart := false, narrowed := true }
def WaitsDownUptoSaid : Prop := waitsDownUptoRow.holds Tryz.pinned (OpenSpec.upto waitsDownSpec)

/-- 'wicketlaw15.WaitsOf', WHERE WHAT IT READS IS OF BULK AT MOST 1048576: true; the input reads as it did. -/
def waitsOfUptoRow : OpenClaim := { program := "ytkgjmejpbklabaagreat", sum := "793b266484dd6d96a4ca0e668c8d2bbb175dc3e9a630b48cb4f2aa269d36b69e", func := "wicket/wicketlaw15.WaitsOf", spec := "waitsOf", unfollowed := true, recurses := true, apart := false, narrowed := true }
def WaitsOfUptoSaid : Prop := waitsOfUptoRow.holds Tryz.pinned (OpenSpec.upto waitsOfSpec)

end Rows
end Go.Proofs.YtkgjmejpbklabaaGreat
