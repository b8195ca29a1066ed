/-
  No cell of these rows narrows 'for every input' (looked for: loops, veiled, ifaces, maps, wideKeys, modest, calm, conditions, laid).
  DERIVED. THE GIVEN ROWS OF THIS SEAT. 4 by the template 'for every input the law returns true; each argument reads behind the call as it read before'; 0 by the template 'total and deterministic' (their statements: YtcmcifihhlfnbaaTotals.lean).
  GIVEN WITH THE SEED: the statements are not yours to turn. If you find one false, say at which input.
  Laid BY PROGRAM, IN A SANDBOX (cutbox-rows.mjs): the forced cells as the released guide's own fill.sh prints them over the translation 3212410dfa212cb9… (all of the seat's roots in one cut). By AI agents, Wed Nov 11 2026. No macro, syntax, notation, axiom, sorry.
-/
import Derived.Test.YtcmcifihhlfnbaaChecked
import GoSem.Claim
import GoSem.ClaimJoined
import GoSem.ClaimMapViews
import Derived.JoinedTies
import Derived.KernelRfl
namespace Go.Proofs.Ytcmcifihhlfnbaa
/- THE CELL 'sum', in the pinned program and in every row, IS THE sha256 OF THE DUMP (.gsa) THAT YtcmcifihhlfnbaaProg.lean LOADS. Nothing in Lean hashes anything: it is a label: what it is worth is what the hold of that sum in a sandbox is worth. -/
noncomputable def Try.pinned : Pinned := { name := "ytcmcifihhlfnbaa", sum := "3212410dfa212cb962228e4dfb308876424dd1cd947ac6112c5607b38bef792d", checked := Try.checked }
namespace Rows
def none {H : Type} : Left H := { results := [], args := [] }

/-- 'wicketlaw05.BlocksNames': WHATEVER THE INPUT: true; the input reads as it did. -/
def blocksNamesSpec : ChangeSpec := { name := "blocksNames", fn := fun _ => fun
  | [] => { results := [.lit (.bool true)], args := [] }
  | _ => none }
def blocksNamesRow : OpenClaim := { program := "ytcmcifihhlfnbaa", sum := "3212410dfa212cb962228e4dfb308876424dd1cd947ac6112c5607b38bef792d", func := "wicket/wicketlaw05.BlocksNames", spec := "blocksNames", unfollowed := true, recurses := true, apart := false }
def BlocksNamesSaid : Prop := blocksNamesRow.holds Try.pinned (OpenSpec.ofChange blocksNamesSpec)

/-- ITS FALSE NEIGHBOUR: 'it returns false'. Refute it at one input. -/
def blocksNamesWrong : ChangeSpec := { name := "blocksNames", fn := fun _ => fun
  | [] => { results := [.lit (.bool false)], args := [] }
  | _ => none }
def BlocksNamesWrongFalsely : Prop := blocksNamesRow.holds Try.pinned (OpenSpec.ofChange blocksNamesWrong)

/-- 'wicketlaw05.BlocksOne': WHATEVER THE INPUT: true; the input reads as it did. -/
def blocksOneSpec : ChangeSpec := { name := "blocksOne", fn := fun _ => fun
  | [d1, d2, d3, d4] => { results := [.lit (.bool true)], args := [d1, d2, d3, d4] }
  | _ => none }
def blocksOneRow : OpenClaim := { program := "ytcmcifihhlfnbaa", sum := "3212410dfa212cb962228e4dfb308876424dd1cd947ac6112c5607b38bef792d", func := "wicket/wicketlaw05.BlocksOne", spec := "blocksOne", unfollowed := true, recurses := true, apart := false }
def BlocksOneSaid : Prop := blocksOneRow.holds Try.pinned (OpenSpec.ofChange blocksOneSpec)

/-- ITS FALSE NEIGHBOUR: 'it returns false'. Refute it at one input. -/
def blocksOneWrong : ChangeSpec := { name := "blocksOne", fn := fun _ => fun
  | [d1, d2, d3, d4] => { results := [.lit (.bool false)], args := [d1, d2, d3, d4] }
  | _ => none }
def BlocksOneWrongFalsely : Prop := blocksOneRow.holds Try.pinned (OpenSpec.ofChange blocksOneWrong)

/-- 'wicketlaw05.BlocksForms': WHATEVER THE INPUT: true; the input reads as it did. -/
def blocksFormsSpec : ChangeSpec := { name := "blocksForms", fn := fun _ => fun
  | [d1, d2, d3] => { results := [.lit (.bool true)], args := [d1, d2, d3] }
  | _ => none }
def blocksFormsRow : OpenClaim := { program := "ytcmcifihhlfnbaa", sum := "3212410dfa212cb962228e4dfb308876424dd1cd947ac6112c5607b38bef792d", func := "wicket/wicketlaw05.BlocksForms", spec := "blocksForms", unfollowed := true, recurses := true, apart := false }
def BlocksFormsSaid : Prop := blocksFormsRow.holds Try.pinned (OpenSpec.ofChange blocksFormsSpec)

/-- ITS FALSE NEIGHBOUR: 'it returns false'. Refute it at one input. -/
def blocksFormsWrong : ChangeSpec := { name := "blocksForms", fn := fun _ => fun
  | [d1, d2, d3] => { results := [.lit (.bool false)], args := [d1, d2, d3] }
  | _ => none }
def BlocksFormsWrongFalsely : Prop := blocksFormsRow.holds Try.pinned (OpenSpec.ofChange blocksFormsWrong)

/-- 'wicketlaw05.BlocksLists': WHATEVER THE INPUT: true; the input reads as it did. -/
def blocksListsSpec : ChangeSpec := { name := "blocksLists", fn := fun _ => fun
  | [d1, d2, d3] => { results := [.lit (.bool true)], args := [d1, d2, d3] }
  | _ => none }
def blocksListsRow : OpenClaim := { program := "ytcmcifihhlfnbaa", sum := "3212410dfa212cb962228e4dfb308876424dd1cd947ac6112c5607b38bef792d", func := "wicket/wicketlaw05.BlocksLists", spec := "blocksLists", unfollowed := true, recurses := true, apart := false }
def BlocksListsSaid : Prop := blocksListsRow.holds Try.pinned (OpenSpec.ofChange blocksListsSpec)

/-- ITS FALSE NEIGHBOUR: 'it returns false'. Refute it at one input. -/
def blocksListsWrong : ChangeSpec := { name := "blocksLists", fn := fun _ => fun
  | [d1, d2, d3] => { results := [.lit (.bool false)], args := [d1, d2, d3] }
  | _ => none }
def BlocksListsWrongFalsely : Prop := blocksListsRow.holds Try.pinned (OpenSpec.ofChange blocksListsWrong)

/- THE SECOND FORM. 'bulk': how many values and letters a reading holds, each counted each time it is reached (what is shared counts as often as it is met; a slice's spare places count too). A statement '..UptoSaid' is the law's where the arguments, and the package variables that the reading takes, are together of bulk at most 1048576: NARROWER than '..Said'. Prove '..Said' where nothing that the law and all that it calls make is longer than what came in: it says more and counts as full. Else prove '..UptoSaid'. A law counts once. -/
mutual
def uptoBulk {H : Type} : DataW H → Nat
  | .lit (.string bytes) => bytes.length + 1
  | .lit _ => 1
  | .nil => 1
  | .ptr d => uptoBulk d + 1
  | .slice elems spare => uptoBulkAll elems + uptoBulkAll spare + 1
  | .agg parts => uptoBulkAll parts + 1
  | .iface _ d => uptoBulk d + 1
  | .map entries => uptoBulkEntries entries + 1
  | .held _ => 1
def uptoBulkAll {H : Type} : List (DataW H) → Nat
  | [] => 0
  | d :: r => uptoBulk d + uptoBulkAll r
def uptoBulkEntries {H : Type} : List (Lit × DataW H) → Nat
  | [] => 0
  | x :: r => uptoBulkEntry x + uptoBulkEntries r
def uptoBulkEntry {H : Type} : Lit × DataW H → Nat
  | (.string bytes, d) => bytes.length + uptoBulk d + 1
  | (_, d) => uptoBulk d + 1
 end
def uptoSmall : (H : Type) → List (DataW H) → Bool := fun _ ds => decide (uptoBulkAll ds ≤ 1048576)
def OpenSpec.upto (s : _root_.Go.ChangeSpec) : _root_.Go.OpenSpec := { _root_.Go.OpenSpec.ofChange s with cond := some uptoSmall }

/-- 'wicketlaw05.BlocksNames', WHERE WHAT IT READS IS OF BULK AT MOST 1048576: true; the input reads as it did. -/
def blocksNamesUptoRow : OpenClaim := { program := "ytcmcifihhlfnbaa", sum := "3212410dfa212cb962228e4dfb308876424dd1cd947ac6112c5607b38bef792d", func := "wicket/wicketlaw05.BlocksNames", spec := "blocksNames", unfollowed := true, recurses := true, apart := false, narrowed := true }
def BlocksNamesUptoSaid : Prop := blocksNamesUptoRow.holds Try.pinned (OpenSpec.upto blocksNamesSpec)

/-- 'wicketlaw05.BlocksOne', WHERE WHAT IT READS IS OF BULK AT MOST 1048576: true; the input reads as it did. -/
def blocksOneUptoRow : OpenClaim := { program := "ytcmcifihhlfnbaa", sum := "3212410dfa212cb962228e4dfb308876424dd1cd947ac6112c5607b38bef792d", func := "wicket/wicketlaw05.BlocksOne", spec := "blocksOne", unfollowed := true, recurses := true, apart := false, narrowed := true }
def BlocksOneUptoSaid : Prop := blocksOneUptoRow.holds Try.pinned (OpenSpec.upto blocksOneSpec)

/-- 'wicketlaw05.BlocksForms', WHERE WHAT IT READS IS OF BULK AT MOST 1048576: true; the input reads as it did. -/
def blocksFormsUptoRow : OpenClaim := { program := "ytcmcifihhlfnbaa", sum := "3212410dfa212cb962228e4dfb308876424dd1cd947ac6112c5607b38bef792d", func := "wicket/wicketlaw05.BlocksForms", spec := "blocksForms", unfollowed := true, recurses := true, apart := false, narrowed := true }
def BlocksFormsUptoSaid : Prop := blocksFormsUptoRow.holds Try.pinned (OpenSpec.upto blocksFormsSpec)

/-- 'wicketlaw05.BlocksLists', WHERE WHAT IT READS IS OF BULK AT MOST 1048576: true; the input reads as it did. -/
def blocksListsUptoRow : OpenClaim := { program := "ytcmcifihhlfnbaa", sum := "3212410dfa212cb962228e4dfb308876424dd1cd947ac6112c5607b38bef792d", func := "wicket/wicketlaw05.BlocksLists", spec := "blocksLists", unfollowed := true, recurses := true, apart := false, narrowed := true }
def BlocksListsUptoSaid : Prop := blocksListsUptoRow.holds Try.pinned (OpenSpec.upto blocksListsSpec)

end Rows
end Go.Proofs.Ytcmcifihhlfnbaa
