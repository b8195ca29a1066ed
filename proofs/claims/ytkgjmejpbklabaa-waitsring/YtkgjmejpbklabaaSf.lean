/-
  Layer 15, the library's sort at []uint64: reverseRange, and the two scans of the partitions.
-/
import Derived.Test.YtkgjmejpbklabaaSa
namespace Go.Proofs.Ytkgjmejpbklabaa
open Go.RowKit

open Go.Sort

theorem rev_go {i j : Nat} {d : Array Int} (h : i < j) : reverseLoop i j d = reverseLoop (i + 1) (j - 1) (swp d i j) := by rw [reverseLoop, if_pos h]
theorem rev_end {i j : Nat} {d : Array Int} (h : ¬ i < j) : reverseLoop i j d = d := by rw [reverseLoop, if_neg h]
set_option maxHeartbeats 2000000 in
set_option maxRecDepth 100000 in
theorem reverse_at {blk off cap n a b : Nat} {d : Array Int} {w : World} (hN : d.size = n) (hH : Holds uE w blk off d) (hk : blk < w.heap.size) (hab : a < b) (hb : b ≤ n) (hz : n < 2305843009213693952) :
    Calls Try.prog 53 #[.slice (some ⟨blk, off, none⟩) n cap, .int .i64 a, .int .i64 b] w fun e w' => e = .returned (.tuple #[]) ∧ SR blk off w (reverseRange d a b) w' := by
  go_enter Try.func53, Try.ntmps53
  go_wp2
  go_loopw [6, 7] (fun v v2 W => ∃ (i j : Nat) (D : Array Int), v = .int .i64 i ∧ v2 = .int .i64 j ∧ j < n ∧ i ≤ j + 1 ∧ D.size = n ∧ Hid (SR blk off w D W) ∧ Hid (reverseLoop i j D = reverseLoop a (b - 1) d)) (fun v v2 _ => (intV v2 - intV v).toNat)
  case atStart => exact ⟨a, b - 1, d, rfl, by congr 1; omega, by omega, by omega, hN, SR.self hH, rfl⟩
  case round =>
    obtain ⟨i, j, D, rfl, rfl, hj, hi, hs, HS, HO⟩ := hrel
    obtain ⟨G, HG⟩ : ∃ G : Nat → Int, Hid (∀ t, G t = D[t]!) := ⟨fun t => D[t]!, fun _ => rfl⟩
    have hcw : ∀ t, t < n → wr.cell? ⟨blk, off + t, none⟩ = some (.int .u64 (G t)) := fun t ht => by rw [HG.out]; exact HS.out.cell hH hk (by omega) t (by omega)
    have hfw : ∀ t, t < n → wr.frozen? ⟨blk, off + t, none⟩ = false := fun t ht => HS.out.frz hH hk t (by omega)
    by_cases hij : i < j
    · go_wp2
      go_region
      have HW : Hid (SR blk off w (swp D i j) ((wr.setCell ⟨blk, off + i, none⟩ (.int .u64 (G j))).setCell ⟨blk, off + j, none⟩ (.int .u64 (G i))).drew) := HS.out.swapD HG.out i j (by omega) (by omega)
      all_goals go_wp2
      go_roundw
      case rel => exact ⟨i + 1, j - 1, swp D i j, rfl, by congr 1; omega, by omega, by omega, by rw [size_swp]; exact hs, HW, by show _ = _; rw [← HO.out, rev_go hij]⟩
      case measure => simp [intV]; omega
    · go_wp2
      go_end0
      exact ⟨rfl, by unfold reverseRange; rw [← HO.out, rev_end hij]; exact HS.out⟩
end Go.Proofs.Ytkgjmejpbklabaa
