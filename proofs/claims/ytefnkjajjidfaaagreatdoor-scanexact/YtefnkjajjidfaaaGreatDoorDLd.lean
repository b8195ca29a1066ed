/-
  Contracts of layer 4, fourth part: Flush, Crash.
-/
import Derived.Test.YtefnkjajjidfaaaGreatDoorDLc
namespace Go.Proofs.YtefnkjajjidfaaaGreatDoor
open Go.RowKit
end Go.Proofs.YtefnkjajjidfaaaGreatDoor
