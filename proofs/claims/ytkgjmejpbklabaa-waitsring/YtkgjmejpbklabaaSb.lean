/-
  Layer 15, the library's sort at []uint64: insertionSort.
-/
import Derived.Test.YtkgjmejpbklabaaSa
namespace Go.Proofs.Ytkgjmejpbklabaa
open Go.RowKit

open Go.Sort

theorem insIn_go {a j : Nat} {d : Array Int} (hj : a < j) (hl : ltInt d[j]! d[j - 1]! = true) : insInner ltInt a j d = insInner ltInt a (j - 1) (swp d j (j - 1)) := by
  cases j with
  | zero => omega
  | succ k => simp only [insInner, Nat.add_sub_cancel] at hl ⊢; simp [hj, hl]
theorem insIn_end {a j : Nat} {d : Array Int} (h : a < j → ltInt d[j]! d[j - 1]! = false) : insInner ltInt a j d = d := by
  cases j with
  | zero => rfl
  | succ k =>
    by_cases hj : a < k + 1
    · have := h hj
      simp only [Nat.add_sub_cancel] at this
      simp [insInner, this]
    · simp [insInner, hj]
theorem insOut_go {a b i : Nat} {d : Array Int} (h : i < b) : insOuter ltInt a b i d = insOuter ltInt a b (i + 1) (insInner ltInt a i d) := by rw [insOuter, if_pos h]
theorem insOut_end {a b i : Nat} {d : Array Int} (h : ¬ i < b) : insOuter ltInt a b i d = d := by rw [insOuter, if_neg h]

set_option maxHeartbeats 2000000 in
set_option maxRecDepth 100000 in
theorem insertion_at {blk off cap a b : Nat} {d : Array Int} {w : World} (hH : Holds uE w blk off d) (hk : blk < w.heap.size) (hab : a ≤ b) (hb : b ≤ d.size) (hz : d.size < 4611686018427387904) :
    Calls Try.prog 49 #[.slice (some ⟨blk, off, none⟩) d.size cap, .int .i64 a, .int .i64 b] w fun e w' => e = .returned (.tuple #[]) ∧ SR blk off w (insertionSort ltInt d a b) w' := by
  go_enter Try.func49, Try.ntmps49
  go_wp2
  go_loopw [6] (fun v W => ∃ (i : Nat) (D : Array Int), v = .int .i64 i ∧ (a < i ∧ i ≤ b + 1) ∧ D.size = d.size ∧ Hid (SR blk off w D W) ∧ Hid (insOuter ltInt a b i D = insOuter ltInt a b (a + 1) d)) (fun v _ => b + 1 - (intV v).toNat)
  case atStart => exact ⟨a + 1, d, by go_num, by omega, rfl, SR.self hH, rfl⟩
  case round =>
    obtain ⟨i, D, rfl, hi, hs, HS, HO⟩ := hrel
    go_wp2
    · have hib : i < b := by assumption
      go_loopw [7] (fun v W => ∃ (j : Nat) (F : Array Int), v = .int .i64 j ∧ (a ≤ j ∧ j ≤ i) ∧ F.size = d.size ∧ Hid (SR blk off w F W) ∧ Hid (insInner ltInt a j F = insInner ltInt a i D)) (fun v _ => (intV v).toNat)
      case atStart => exact ⟨i, D, rfl, by omega, hs, HS, rfl⟩
      case round =>
        obtain ⟨j, F, rfl, hj, hsF, HF, HI⟩ := hrel
        obtain ⟨G, HG⟩ : ∃ G : Nat → Int, Hid (∀ t, G t = F[t]!) := ⟨fun t => F[t]!, fun _ => rfl⟩
        have hcw : ∀ t, t < d.size → wr.cell? ⟨blk, off + t, none⟩ = some (.int .u64 (G t)) := fun t ht => by rw [HG.out]; exact HF.out.cell hH hk hsF t ht
        have hfw : ∀ t, t < d.size → wr.frozen? ⟨blk, off + t, none⟩ = false := fun t ht => HF.out.frz hH hk t ht
        have OUT : Hid ((a < j → ltInt (G j) (G (j - 1)) = false) → insOuter ltInt a b (i + 1) F = insOuter ltInt a b (a + 1) d) := fun h => by
          rw [← HO.out, insOut_go hib, ← HI.out, insIn_end (fun h2 => by rw [← HG.out, ← HG.out]; exact h h2)]
        go_wp2
        by_cases hja : a < j
        · go_quiet (first | (go_at_call 55; refine Calls.quiet_of_same (less_is _ _ _)))
          go_wp2
          · have hl : ltInt (G j) (G (j - 1)) = true := by assumption
            go_region
            all_goals go_wp2
            go_roundw
            case rel =>
              refine ⟨j - 1, swp F j (j - 1), by congr 1; omega, by omega, by rw [size_swp]; exact hsF, ?_, ?_⟩
              · exact HF.out.swapG HG.out _ j (j - 1) (by omega) (by omega)
              · show _ = _
                rw [← HI.out, insIn_go hja (by rw [← HG.out, ← HG.out]; exact hl)]
            case measure => simp [intV]; omega
          · have hl : ltInt (G j) (G (j - 1)) = false := by assumption
            go_roundw
            case rel => exact ⟨i + 1, F, by go_num, by omega, hsF, HF.out.draws nq, OUT.out fun _ => hl⟩
            case measure => simp [intV]; omega
        · go_quiet (first | (go_at_call 55; refine Calls.quiet_of_same (less_is _ _ _)))
          go_wp2
          go_roundw
          case rel => exact ⟨i + 1, F, by go_num, by omega, hsF, HF.out.draws nq, OUT.out fun h => absurd h hja⟩
          case measure => simp [intV]; omega
    · have hge : ¬ i < b := by assumption
      go_end0
      exact ⟨rfl, by unfold insertionSort; rw [← HO.out, insOut_end hge]; exact HS.out⟩
end Go.Proofs.Ytkgjmejpbklabaa
