/-
  No cell of these rows narrows 'for every input' (looked for: loops, veiled, ifaces, maps, wideKeys, modest, calm, conditions, laid).
  DERIVED. THE GIVEN ROWS OF THIS SEAT. 3 by the template 'for every input the law returns true; each argument reads behind the call as it read before'; 0 by the template 'total and deterministic' (their statements: YthgkdpniaednaaaTotals.lean).
  GIVEN WITH THE SEED: the statements are not yours to turn. If you find one false, say at which input.
  Laid BY PROGRAM, IN A SANDBOX (cutbox-rows.mjs): the forced cells as the released guide's own fill.sh prints them over the translation a4ec4389130a2e6d… (all of the seat's roots in one cut). By AI agents, Wed Nov 11 2026. No macro, syntax, notation, axiom, sorry.
-/
import Derived.Test.YthgkdpniaednaaaChecked
import GoSem.Claim
import GoSem.ClaimJoined
import GoSem.ClaimMapViews
import Derived.JoinedTies
import Derived.KernelRfl
namespace Go.Proofs.Ythgkdpniaednaaa
/- THE CELL 'sum', in the pinned program and in every row, IS THE sha256 OF THE DUMP (.gsa) THAT YthgkdpniaednaaaProg.lean LOADS. Nothing in Lean hashes anything: it is a label: what it is worth is what the hold of that sum in a sandbox is worth. -/
noncomputable def Try.pinned : Pinned := { name := "ythgkdpniaednaaa", sum := "a4ec4389130a2e6da5a3fd72564af46c6e09e8b65910369eaaa43d8b58dc0d0d", checked := Try.checked }
namespace Rows
def none {H : Type} : Left H := { results := [], args := [] }

/-- 'wicketlaw16.BufferAgain': WHATEVER THE INPUT: true; the input reads as it did. -/
def bufferAgainSpec : ChangeSpec := { name := "bufferAgain", fn := fun _ => fun
  | [d1, d2, d3] => { results := [.lit (.bool true)], args := [d1, d2, d3] }
  | _ => none }
def bufferAgainRow : OpenClaim := { program := "ythgkdpniaednaaa", sum := "a4ec4389130a2e6da5a3fd72564af46c6e09e8b65910369eaaa43d8b58dc0d0d", func := "wicket/wicketlaw16.BufferAgain", spec := "bufferAgain", inPlace := ["slices.overlaps[wicket/api.Image]"], unfollowed := true, recurses := true, apart := false }
def BufferAgainSaid : Prop := bufferAgainRow.holds Try.pinned (OpenSpec.ofChange bufferAgainSpec)

/-- ITS FALSE NEIGHBOUR: 'it returns false'. Refute it at one input. -/
def bufferAgainWrong : ChangeSpec := { name := "bufferAgain", fn := fun _ => fun
  | [d1, d2, d3] => { results := [.lit (.bool false)], args := [d1, d2, d3] }
  | _ => none }
def BufferAgainWrongFalsely : Prop := bufferAgainRow.holds Try.pinned (OpenSpec.ofChange bufferAgainWrong)

/-- 'wicketlaw16.BufferNames': WHATEVER THE INPUT: true; the input reads as it did. -/
def bufferNamesSpec : ChangeSpec := { name := "bufferNames", fn := fun _ => fun
  | [] => { results := [.lit (.bool true)], args := [] }
  | _ => none }
def bufferNamesRow : OpenClaim := { program := "ythgkdpniaednaaa", sum := "a4ec4389130a2e6da5a3fd72564af46c6e09e8b65910369eaaa43d8b58dc0d0d", func := "wicket/wicketlaw16.BufferNames", spec := "bufferNames", inPlace := ["slices.overlaps[wicket/api.Image]"], unfollowed := true, recurses := true, apart := false }
def BufferNamesSaid : Prop := bufferNamesRow.holds Try.pinned (OpenSpec.ofChange bufferNamesSpec)

/-- ITS FALSE NEIGHBOUR: 'it returns false'. Refute it at one input. -/
def bufferNamesWrong : ChangeSpec := { name := "bufferNames", fn := fun _ => fun
  | [] => { results := [.lit (.bool false)], args := [] }
  | _ => none }
def BufferNamesWrongFalsely : Prop := bufferNamesRow.holds Try.pinned (OpenSpec.ofChange bufferNamesWrong)

/-- 'wicketlaw16.BufferPlays': WHATEVER THE INPUT: true; the input reads as it did. -/
def bufferPlaysSpec : ChangeSpec := { name := "bufferPlays", fn := fun _ => fun
  | [d1, d2, d3] => { results := [.lit (.bool true)], args := [d1, d2, d3] }
  | _ => none }
def bufferPlaysRow : OpenClaim := { program := "ythgkdpniaednaaa", sum := "a4ec4389130a2e6da5a3fd72564af46c6e09e8b65910369eaaa43d8b58dc0d0d", func := "wicket/wicketlaw16.BufferPlays", spec := "bufferPlays", inPlace := ["slices.overlaps[wicket/api.Image]"], unfollowed := true, recurses := true, apart := false }
def BufferPlaysSaid : Prop := bufferPlaysRow.holds Try.pinned (OpenSpec.ofChange bufferPlaysSpec)

/-- ITS FALSE NEIGHBOUR: 'it returns false'. Refute it at one input. -/
def bufferPlaysWrong : ChangeSpec := { name := "bufferPlays", fn := fun _ => fun
  | [d1, d2, d3] => { results := [.lit (.bool false)], args := [d1, d2, d3] }
  | _ => none }
def BufferPlaysWrongFalsely : Prop := bufferPlaysRow.holds Try.pinned (OpenSpec.ofChange bufferPlaysWrong)

/- THE SECOND FORM. 'bulk': how many values and letters a reading holds, each counted each time it is reached (what is shared counts as often as it is met; a slice's spare places count too). A statement '..UptoSaid' is the law's where the arguments, and the package variables that the reading takes, are together of bulk at most 1048576: NARROWER than '..Said'. Prove '..Said' where nothing that the law and all that it calls make is longer than what came in: it says more and counts as full. Else prove '..UptoSaid'. A law counts once. -/
mutual
def uptoBulk {H : Type} : DataW H → Nat
  | .lit (.string bytes) => bytes.length + 1
  | .lit _ => 1
  | .nil => 1
  | .ptr d => uptoBulk d + 1
  | .slice elems spare => uptoBulkAll elems + uptoBulkAll spare + 1
  | .agg parts => uptoBulkAll parts + 1
  | .iface _ d => uptoBulk d + 1
  | .map entries => uptoBulkEntries entries + 1
  | .held _ => 1
def uptoBulkAll {H : Type} : List (DataW H) → Nat
  | [] => 0
  | d :: r => uptoBulk d + uptoBulkAll r
def uptoBulkEntries {H : Type} : List (Lit × DataW H) → Nat
  | [] => 0
  | x :: r => uptoBulkEntry x + uptoBulkEntries r
def uptoBulkEntry {H : Type} : Lit × DataW H → Nat
  | (.string bytes, d) => bytes.length + uptoBulk d + 1
  | (_, d) => uptoBulk d + 1
 end
def uptoSmall : (H : Type) → List (DataW H) → Bool := fun _ ds => decide (uptoBulkAll ds ≤ 1048576)
def OpenSpec.upto (s : _root_.Go.ChangeSpec) : _root_.Go.OpenSpec := { _root_.Go.OpenSpec.ofChange s with cond := some uptoSmall }

/-- 'wicketlaw16.BufferAgain', WHERE WHAT IT READS IS OF BULK AT MOST 1048576: true; the input reads as it did. -/
def bufferAgainUptoRow : OpenClaim := { program := "ythgkdpniaednaaa", sum := "a4ec4389130a2e6da5a3fd72564af46c6e09e8b65910369eaaa43d8b58dc0d0d", func := "wicket/wicketlaw16.BufferAgain", spec := "bufferAgain", inPlace := ["slices.overlaps[wicket/api.Image]"], unfollowed := true, recurses := true, apart := false, narrowed := true }
def BufferAgainUptoSaid : Prop := bufferAgainUptoRow.holds Try.pinned (OpenSpec.upto bufferAgainSpec)

/-- 'wicketlaw16.BufferNames', WHERE WHAT IT READS IS OF BULK AT MOST 1048576: true; the input reads as it did. -/
def bufferNamesUptoRow : OpenClaim := { program := "ythgkdpniaednaaa", sum := "a4ec4389130a2e6da5a3fd72564af46c6e09e8b65910369eaaa43d8b58dc0d0d", func := "wicket/wicketlaw16.BufferNames", spec := "bufferNames", inPlace := ["slices.overlaps[wicket/api.Image]"], unfollowed := true, recurses := true, apart := false, narrowed := true }
def BufferNamesUptoSaid : Prop := bufferNamesUptoRow.holds Try.pinned (OpenSpec.upto bufferNamesSpec)

/-- 'wicketlaw16.BufferPlays', WHERE WHAT IT READS IS OF BULK AT MOST 1048576: true; the input reads as it did. -/
def bufferPlaysUptoRow : OpenClaim := { program := "ythgkdpniaednaaa", sum := "a4ec4389130a2e6da5a3fd72564af46c6e09e8b65910369eaaa43d8b58dc0d0d", func := "wicket/wicketlaw16.BufferPlays", spec := "bufferPlays", inPlace := ["slices.overlaps[wicket/api.Image]"], unfollowed := true, recurses := true, apart := false, narrowed := true }
def BufferPlaysUptoSaid : Prop := bufferPlaysUptoRow.holds Try.pinned (OpenSpec.upto bufferPlaysSpec)

end Rows
end Go.Proofs.Ythgkdpniaednaaa
