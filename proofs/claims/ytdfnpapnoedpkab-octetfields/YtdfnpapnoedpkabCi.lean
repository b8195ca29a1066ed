/-
  The statement OctetNames: its walk.
-/
import Derived.Test.YtdfnpapnoedpkabCh
namespace Go.Proofs.Ytdfnpapnoedpkab
open Go.RowKit

/-- one call behind another -/
theorem below_then {a b c : World} (h : Below a.heap.size a b) (k : Below b.heap.size b c) : Below a.heap.size a c := h.trans (k.mono h.size)


end Go.Proofs.Ytdfnpapnoedpkab
