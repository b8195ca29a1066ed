/-
  Layer 15: sameEdges.
-/
import Derived.Test.YtkgjmejpbklabaaHb
namespace Go.Proofs.Ytkgjmejpbklabaa
open Go.RowKit

set_option maxHeartbeats 2000000 in
set_option maxRecDepth 100000 in
theorem sameE_is {w : World} {p q : Option Addr} {n c d : Nat} {es : List Eg} (h1 : EIn w p n es) (h2 : EIn w q n es) (hn : n ≤ 10000) :
    Calls Try.prog 27 #[.slice p n c, .slice q n d] w fun e w' => e = .returned (.bool true) ∧ ∃ k, w' = w.drewN k := by
  have H1 : Hid (EIn w p n es) := h1
  have H2 : Hid (EIn w q n es) := h2
  clear h1 h2
  go_enter Try.func27, Try.ntmps27
  go_wp2_with fail
  go_loopw [13] (fun v W => ∃ (j k : Nat), v = .int .i64 (j : Int) ∧ j ≤ n ∧ Hid (W = w.drewN k)) (fun v _ => n - (intV v).toNat)
  case atStart => exact ⟨0, 0, rfl, by omega, rfl⟩
  case round =>
    obtain ⟨j, k, rfl, hj, HW⟩ := hrel
    by_cases hjn : j < n
    · obtain ⟨b1, o1, rfl, c1⟩ := H1.out.cells (by omega)
      obtain ⟨b2, o2, rfl, c2⟩ := H2.out.cells (by omega)
      obtain ⟨x1, x2, x3, x4⟩ := c1 j hjn
      obtain ⟨y1, y2, y3, y4⟩ := c2 j hjn
      have x1 : wr.cell? ⟨b1, o1 + j * 4, none⟩ = some (.int .u64 (es.getD j noEg).f) := by rw [HW.out]; exact x1
      have x2 : wr.cell? ⟨b1, o1 + j * 4 + 1, none⟩ = some (.int .u64 (es.getD j noEg).t) := by rw [HW.out]; exact x2
      have x3 : wr.cell? ⟨b1, o1 + j * 4 + 2, none⟩ = some (.int .i64 (es.getD j noEg).y) := by rw [HW.out]; exact x3
      have x4 : wr.cell? ⟨b1, o1 + j * 4 + 3, none⟩ = some (.int .i64 (es.getD j noEg).b) := by rw [HW.out]; exact x4
      have y1 : wr.cell? ⟨b2, o2 + j * 4, none⟩ = some (.int .u64 (es.getD j noEg).f) := by rw [HW.out]; exact y1
      have y2 : wr.cell? ⟨b2, o2 + j * 4 + 1, none⟩ = some (.int .u64 (es.getD j noEg).t) := by rw [HW.out]; exact y2
      have y3 : wr.cell? ⟨b2, o2 + j * 4 + 2, none⟩ = some (.int .i64 (es.getD j noEg).y) := by rw [HW.out]; exact y3
      have y4 : wr.cell? ⟨b2, o2 + j * 4 + 3, none⟩ = some (.int .i64 (es.getD j noEg).b) := by rw [HW.out]; exact y4
      clear c1 c2
      generalize es.getD j noEg = ed at *
      obtain ⟨ef, et, ey, ebk⟩ := ed
      simp only at x1 x2 x3 x4 y1 y2 y3 y4
      go_wp2_with fail
      go_quiet (fail)
      go_wp2_with fail
      go_roundw
      case rel => exact ⟨j + 1, k + nq, rfl, by omega, by show _ = _; rw [HW.out]; simp [World.drewN, Nat.add_assoc]⟩
      case measure => simp [intV]; omega
    · go_wp2_with fail
      go_ret
      exact ⟨rfl, k, HW.out⟩
end Go.Proofs.Ytkgjmejpbklabaa
