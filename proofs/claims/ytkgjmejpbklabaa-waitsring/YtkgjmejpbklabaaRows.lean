/-
  No cell of these rows narrows 'for every input' (looked for: loops, veiled, ifaces, maps, wideKeys, modest, calm, conditions, laid).
  DERIVED. THE GIVEN ROWS OF THIS SEAT. 2 by the template 'for every input the law returns true; each argument reads behind the call as it read before'; 0 by the template 'total and deterministic' (their statements: YtkgjmejpbklabaaTotals.lean).
  GIVEN WITH THE SEED: the statements are not yours to turn. If you find one false, say at which input.
  Laid BY PROGRAM, IN A SANDBOX (cutbox-rows.mjs): the forced cells as the released guide's own fill.sh prints them over the translation 383bf9da30651a26… (all of the seat's roots in one cut). By AI agents, Wed Nov 11 2026. No macro, syntax, notation, axiom, sorry.
-/
import Derived.Test.YtkgjmejpbklabaaChecked
import GoSem.Claim
import GoSem.ClaimJoined
import GoSem.ClaimMapViews
import Derived.JoinedTies
import Derived.KernelRfl
namespace Go.Proofs.Ytkgjmejpbklabaa
/- THE CELL 'sum', in the pinned program and in every row, IS THE sha256 OF THE DUMP (.gsa) THAT YtkgjmejpbklabaaProg.lean LOADS. Nothing in Lean hashes anything: it is a label: what it is worth is what the hold of that sum in a sandbox is worth. -/
noncomputable def Try.pinned : Pinned := { name := "ytkgjmejpbklabaa", sum := "383bf9da30651a26747b97500077d58dfb7df337db7dfb0778dfe32401406adb", checked := Try.checked }
namespace Rows
def none {H : Type} : Left H := { results := [], args := [] }

/-- 'wicketlaw15.WaitsFree': WHATEVER THE INPUT: true; the input reads as it did. -/
def waitsFreeSpec : ChangeSpec := { name := "waitsFree", fn := fun _ => fun
  | [d1, d2] => { results := [.lit (.bool true)], args := [d1, d2] }
  | _ => none }
def waitsFreeRow : OpenClaim := { program := "ytkgjmejpbklabaa", sum := "383bf9da30651a26747b97500077d58dfb7df337db7dfb0778dfe32401406adb", func := "wicket/wicketlaw15.WaitsFree", spec := "waitsFree", unfollowed := true, recurses := true, apart := false }
def WaitsFreeSaid : Prop := waitsFreeRow.holds Try.pinned (OpenSpec.ofChange waitsFreeSpec)

/-- ITS FALSE NEIGHBOUR: 'it returns false'. Refute it at one input. -/
def waitsFreeWrong : ChangeSpec := { name := "waitsFree", fn := fun _ => fun
  | [d1, d2] => { results := [.lit (.bool false)], args := [d1, d2] }
  | _ => none }
def WaitsFreeWrongFalsely : Prop := waitsFreeRow.holds Try.pinned (OpenSpec.ofChange waitsFreeWrong)

/-- 'wicketlaw15.WaitsRing': WHATEVER THE INPUT: true; the input reads as it did. -/
def waitsRingSpec : ChangeSpec := { name := "waitsRing", fn := fun _ => fun
  | [d] => { results := [.lit (.bool true)], args := [d] }
  | _ => none }
def waitsRingRow : OpenClaim := { program := "ytkgjmejpbklabaa", sum := "383bf9da30651a26747b97500077d58dfb7df337db7dfb0778dfe32401406adb", func := "wicket/wicketlaw15.WaitsRing", spec := "waitsRing", unfollowed := true, recurses := true, apart := false }
def WaitsRingSaid : Prop := waitsRingRow.holds Try.pinned (OpenSpec.ofChange waitsRingSpec)

/-- ITS FALSE NEIGHBOUR: 'it returns false'. Refute it at one input. -/
def waitsRingWrong : ChangeSpec := { name := "waitsRing", fn := fun _ => fun
  | [d] => { results := [.lit (.bool false)], args := [d] }
  | _ => none }
def WaitsRingWrongFalsely : Prop := waitsRingRow.holds Try.pinned (OpenSpec.ofChange waitsRingWrong)

/- THE SECOND FORM. 'bulk': how many values and letters a reading holds, each counted each time it is reached (what is shared counts as often as it is met; a slice's spare places count too). A statement '..UptoSaid' is the law's where the arguments, and the package variables that the reading takes, are together of bulk at most 1048576: NARROWER than '..Said'. Prove '..Said' where nothing that the law and all that it calls make is longer than what came in: it says more and counts as full. Else prove '..UptoSaid'. A law counts once. -/
mutual
def uptoBulk {H : Type} : DataW H → Nat
  | .lit (.string bytes) => bytes.length + 1
  | .lit _ => 1
  | .nil => 1
  | .ptr d => uptoBulk d + 1
  | .slice elems spare => uptoBulkAll elems + uptoBulkAll spare + 1
  | .agg parts => uptoBulkAll parts + 1
  | .iface _ d => uptoBulk d + 1
  | .map entries => uptoBulkEntries entries + 1
  | .held _ => 1
def uptoBulkAll {H : Type} : List (DataW H) → Nat
  | [] => 0
  | d :: r => uptoBulk d + uptoBulkAll r
def uptoBulkEntries {H : Type} : List (Lit × DataW H) → Nat
  | [] => 0
  | x :: r => uptoBulkEntry x + uptoBulkEntries r
def uptoBulkEntry {H : Type} : Lit × DataW H → Nat
  | (.string bytes, d) => bytes.length + uptoBulk d + 1
  | (_, d) => uptoBulk d + 1
 end
def uptoSmall : (H : Type) → List (DataW H) → Bool := fun _ ds => decide (uptoBulkAll ds ≤ 1048576)
def OpenSpec.upto (s : _root_.Go.ChangeSpec) : _root_.Go.OpenSpec := { _root_.Go.OpenSpec.ofChange s with cond := some uptoSmall }

/-- 'wicketlaw15.WaitsFree', WHERE WHAT IT READS IS OF BULK AT MOST 1048576: true; the input reads as it did. -/
def waitsFreeUptoRow : OpenClaim := { program := "ytkgjmejpbklabaa", sum := "383bf9da30651a26747b97500077d58dfb7df337db7dfb0778dfe32401406adb", func := "wicket/wicketlaw15.WaitsFree", spec := "waitsFree", unfollowed := true, recurses := true, apart := false, narrowed := true }
def WaitsFreeUptoSaid : Prop := waitsFreeUptoRow.holds Try.pinned (OpenSpec.upto waitsFreeSpec)

/-- 'wicketlaw15.WaitsRing', WHERE WHAT IT READS IS OF BULK AT MOST 1048576: true; the input reads as it did. -/
def waitsRingUptoRow : OpenClaim := { program := "ytkgjmejpbklabaa", sum := "383bf9da30651a26747b97500077d58dfb7df337db7dfb0778dfe32401406adb", func := "wicket/wicketlaw15.WaitsRing", spec := "waitsRing", unfollowed := true, recurses := true, apart := false, narrowed := true }
def WaitsRingUptoSaid : Prop := waitsRingUptoRow.holds Try.pinned (OpenSpec.upto waitsRingSpec)

end Rows
end Go.Proofs.Ytkgjmejpbklabaa
