/-
  HomeDisk walked.
-/
import Derived.Test.YtpenddnmmfpdjaaDoorXl
import Derived.Test.YtpenddnmmfpdjaaDoorXm
namespace Go.Proofs.YtpenddnmmfpdjaaDoor
open Go.RowKit

theorem homeDisk_any (s : Sup) (ps : Option Addr) (ls cs : Nat) (os : List OpV) (w : World) (h : ScIn w w.heap.size ps ls os) (hm : ls ≤ maxLen) (ht : Tab w) :
    Calls Tryd.prog 8 #[.agg (ccells s).toArray, .slice ps ls cs] w fun e w' => e = .returned (.bool true) ∧ Below w.heap.size w w' := by
  by_cases hc : MayC s
  · exact homeDisk_good s hc ps ls cs os w h hm ht
  · exact homeDisk_bad s hc ps ls cs os w h hm ht
end Go.Proofs.YtpenddnmmfpdjaaDoor
