/-
  Contracts of layer 4, fourth part: Flush, Crash.
-/
import Derived.Test.YtefnkjajjidfaaaDoorDLc
namespace Go.Proofs.YtefnkjajjidfaaaDoor
open Go.RowKit
set_option maxHeartbeats 400000 in
set_option maxRecDepth 100000 in
theorem flush_nil (w : World) : Calls Tryd.prog 54 #[.pointer none] w fun e w' => e = .returned (.tuple #[.int .i64 0, .int .i64 1]) ∧ w = w' := by
  go_enter Tryd.func54, Tryd.ntmps54
  go_wp2
  go_ret2
  exact ⟨rfl, rfl⟩
set_option maxHeartbeats 400000 in
set_option maxRecDepth 100000 in
theorem flush_any {w : World} {S : Nat → Prop} {p n : Nat} {d : List Int} {ws : List Wr} (h : Dsk w S p n d ws) (hk : ws.length ≤ 100000) :
    Calls Tryd.prog 54 #[.pointer (some ⟨p, 0, none⟩)] w fun e w' => e = .returned (.tuple #[.int .i64 ws.length, .int .i64 0]) ∧ Dsk w' S p n (settle (fun _ => true) ws d) [] ∧ Kept S w w' := by
  go_enter Tryd.func54, Tryd.ntmps54
  go_wp2_with fail
  refine (settle_flush h hk (fun _ => true) (fun _ => rfl)).mono ?_
  rintro e w1 ⟨rfl, hd, hkp⟩
  go_wp2
  go_ret2
  exact ⟨rfl, hd, hkp⟩
end Go.Proofs.YtefnkjajjidfaaaDoor
