/-
  The statement OctetPads: its walk.
-/
import Derived.Test.YtpenddnmmfpdjaaDoorAEd
namespace Go.Proofs.YtpenddnmmfpdjaaDoor
open Go.RowKit
theorem Seg.wider {w : World} {B T T' : Nat} {r : Trip} (h : Seg w B T r) (hT : T ≤ T') : Seg w B T' r := ⟨h.own, fun a ha => Nat.lt_of_lt_of_le (h.lt a ha) hT, Nat.le_trans h.le hT, h.size⟩
end Go.Proofs.YtpenddnmmfpdjaaDoor
