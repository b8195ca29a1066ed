/-
  Layer 15, the library's sort at []uint64: partialInsertionSort.
-/
import Derived.Test.YtkgjmejpbklabaaSg
namespace Go.Proofs.Ytkgjmejpbklabaa
open Go.RowKit

open Go.Sort

theorem ss_go {d : Array Int} {i b : Nat} (h : i < b) (hp : (!ltInt d[i]! d[i - 1]!) = true) : scanSorted ltInt d b i = scanSorted ltInt d b (i + 1) := by rw [scanSorted, if_pos (by simp [h]; simpa using hp)]
theorem ss_end {d : Array Int} {i b : Nat} (h : i < b → (!ltInt d[i]! d[i - 1]!) = false) : scanSorted ltInt d b i = i := by
  rw [scanSorted, if_neg]
  intro hc
  simp only [Bool.and_eq_true, decide_eq_true_eq] at hc
  rw [h hc.1] at hc; simp at hc
theorem sd_stop {d : Array Int} {j : Nat} (h : 0 < j → (!ltInt d[j]! d[j - 1]!) = true) : shiftDown ltInt j d = d := by
  cases j with
  | zero => rfl
  | succ j => have := h (by omega); simp only [Nat.add_sub_cancel] at this; simp only [shiftDown]; rw [if_pos this]
theorem sd_go {d : Array Int} {j : Nat} (h0 : 0 < j) (h : (!ltInt d[j]! d[j - 1]!) = false) : shiftDown ltInt j d = shiftDown ltInt (j - 1) (swp d j (j - 1)) := by
  cases j with
  | zero => omega
  | succ j => simp only [Nat.add_sub_cancel] at h ⊢; simp only [shiftDown]; rw [if_neg (by rw [h]; simp)]
theorem su_stop {d : Array Int} {b j : Nat} (h : j < b → (!ltInt d[j]! d[j - 1]!) = true) : shiftUp ltInt b j d = d := by
  rw [shiftUp]
  by_cases hj : j < b
  · rw [if_pos hj, if_pos (h hj)]
  · rw [if_neg hj]
theorem su_go {d : Array Int} {b j : Nat} (hj : j < b) (h : (!ltInt d[j]! d[j - 1]!) = false) : shiftUp ltInt b j d = shiftUp ltInt b (j + 1) (swp d j (j - 1)) := by
  rw [shiftUp, if_pos hj, if_neg (by rw [h]; simp)]

set_option maxHeartbeats 2000000 in
set_option maxRecDepth 100000 in
theorem pins_at {blk off cap n a b : Nat} {d : Array Int} {w : World} (hN : d.size = n) (hH : Holds uE w blk off d) (hk : blk < w.heap.size) (hab : a < b) (hb : b ≤ n) (hz : n < 2305843009213693952) :
    Calls Try.prog 54 #[.slice (some ⟨blk, off, none⟩) n cap, .int .i64 a, .int .i64 b] w fun e w' => e = .returned (.bool (partialInsertionSort ltInt d a b).2) ∧ SR blk off w (partialInsertionSort ltInt d a b).1 w' := by
  have HE : Hid (partialIns ltInt a b 5 (a + 1) d = partialInsertionSort ltInt d a b) := rfl
  generalize partialInsertionSort ltInt d a b = PT at HE ⊢
  have HW : Hid (SR blk off w d w) := SR.self hH
  go_enter Try.func54, Try.ntmps54
  go_wp2_with fail
  go_loopw [7, 8] (fun v v2 W => ∃ (i t : Nat) (D : Array Int), v = .int .i64 i ∧ v2 = .int .i64 t ∧ t ≤ 5 ∧ (a < i ∧ i ≤ b) ∧ D.size = n ∧ Hid (SR blk off w D W) ∧ Hid (partialIns ltInt a b (5 - t) i D = PT)) (fun v v2 _ => 5 - (intV v2).toNat)
  case atStart => exact ⟨a + 1, 0, d, rfl, rfl, by omega, by omega, hN, HW, HE⟩
  case round =>
    obtain ⟨i0, t, D, rfl, rfl, ht, hi0, hDn, HS, HO⟩ := hrel
    clear HE HW
    by_cases ht5 : t = 5
    · subst ht5
      go_wp2_with fail
      go_ret
      rw [← HO.out]
      exact ⟨rfl, HS.out⟩
    · obtain ⟨s, hs⟩ : ∃ s, 5 - t = s + 1 := ⟨4 - t, by omega⟩
      obtain ⟨I, hI⟩ : ∃ I, I = scanSorted ltInt D b i0 := ⟨_, rfl⟩
      have HE : Hid (PT = if I = b then (D, true) else if b - a < 50 then (D, false) else partialIns ltInt a b s I (fixUp ltInt b I (fixDown ltInt a I (swp D I (I - 1))))) := by
        show _ = _
        rw [← HO.out, hs, partialIns_succ, ← hI]
      have HI : Hid (I = scanSorted ltInt D b i0) := hI
      have hts : s = 5 - (t + 1) := by omega
      have HTS : Hid (s = 5 - (t + 1)) := hts
      clear HO hI hs hts
      go_upto_block 2 with fail
      go_cut [7] from 13 to 132 (fun v W => v = .int .i64 (I : Int) ∧ Hid (SR blk off w D W) ∧ Hid (i0 ≤ I ∧ I ≤ b))
      case first =>
        go_wp2_with fail
        go_loopw [7] (fun v W => ∃ i : Nat, v = .int .i64 i ∧ (i0 ≤ i ∧ i ≤ b) ∧ Hid (SR blk off w D W) ∧ Hid (scanSorted ltInt D b i = I)) (fun v _ => n + 1 - (intV v).toNat)
        case atStart => exact ⟨i0, rfl, by omega, HS, HI.out.symm⟩
        case round =>
          obtain ⟨i, rfl, hi, HSu, HU⟩ := hrel
          obtain ⟨G, HG⟩ : ∃ G : Nat → Int, Hid (∀ t, G t = D[t]!) := ⟨fun t => D[t]!, fun _ => rfl⟩
          have hcw : ∀ t, t < n → wr.cell? ⟨blk, off + t, none⟩ = some (.int .u64 (G t)) := fun t ht => by rw [HG.out]; exact HSu.out.cell hH hk (by omega) t (by omega)
          have hfw : ∀ t, t < n → wr.frozen? ⟨blk, off + t, none⟩ = false := fun t ht => HSu.out.frz hH hk t (by omega)
          by_cases hij : i < b
          · have hd : decide ((i : Int) < (b : Int)) = true := decide_eq_true (by omega)
            have hd2 : (i : Int) < (b : Int) := by omega
            go_wp2_with fail
            go_quiet (first | (go_at_call 55; refine Calls.quiet_of_same (less_is _ _ _)))
            go_wp2_with fail
            all_goals first
              | (have hl : (!ltInt (G i) (G (i - 1))) = true := by assumption
                 have HP : Hid ((!ltInt D[i]! D[i - 1]!) = true) := by show _ = _; simp only [← HG.out, hl]
                 go_roundw
                 case rel => exact ⟨i + 1, rfl, by omega, HSu.out.draws nq, by show _ = _; rw [← HU.out, ← ss_go hij HP.out]⟩
                 case measure => simp [intV]; omega)
              | (have hl : (!ltInt (G i) (G (i - 1))) = false := by assumption
                 have HP : Hid (i < b → (!ltInt D[i]! D[i - 1]!) = false) := fun _ => by simp only [← HG.out, hl]
                 have HV : Hid (I = i) := by show _ = _; rw [← HU.out, ss_end HP.out]
                 go_meet
                 case rel => exact ⟨by rw [HV.out], HSu.out.draws nq, by show _ ∧ _; rw [HV.out]; omega⟩)
          · have hd : decide ((i : Int) < (b : Int)) = false := decide_eq_false (by omega)
            have HV : Hid (I = i) := by show _ = _; rw [← HU.out, ss_end (fun h => absurd h hij)]
            go_wp2_with fail
            go_quiet (first | (go_at_call 55; refine Calls.quiet_of_same (less_is _ _ _)))
            go_wp2_with fail
            go_meet
            case rel => exact ⟨by rw [HV.out], HSu.out.draws nq, by show _ ∧ _; rw [HV.out]; omega⟩
      case rest =>
        obtain ⟨rfl, HS1, HB1⟩ := hcut
        have hI1 := HB1.out
        by_cases hIb : I = b
        · have HE1 : Hid (PT = (D, true)) := by show _ = _; rw [HE.out, if_pos hIb]
          subst hIb
          go_wp2_with fail
          go_ret
          rw [HE1.out]
          exact ⟨rfl, HS1.out⟩
        by_cases h50 : b - a < 50
        · have HE1 : Hid (PT = (D, false)) := by show _ = _; rw [HE.out, if_neg hIb, if_pos h50]
          have h50I : (b : Int) - (a : Int) < 50 := by omega
          have hIbI : ¬ (I : Int) = (b : Int) := by omega
          go_wp2_with fail
          go_ret
          rw [HE1.out]
          exact ⟨rfl, HS1.out⟩
        have hIbI : ¬ (I : Int) = (b : Int) := by omega
        have h50I : ¬ (b : Int) - (a : Int) < 50 := by omega
        obtain ⟨D2, hD2⟩ : ∃ D2, D2 = swp D I (I - 1) := ⟨_, rfl⟩
        have hD2n : D2.size = n := by rw [hD2, size_swp]; exact hDn
        obtain ⟨D4, hD4⟩ : ∃ D4, D4 = fixDown ltInt a I D2 := ⟨_, rfl⟩
        obtain ⟨D5, hD5⟩ : ∃ D5, D5 = fixUp ltInt b I D4 := ⟨_, rfl⟩
        have HE1 : Hid (partialIns ltInt a b (5 - (t + 1)) I D5 = PT) := by show _ = _; rw [HE.out, if_neg hIb, if_neg h50, hD5, hD4, hD2, HTS.out]
        have HD4 : Hid (D4 = fixDown ltInt a I D2) := hD4
        have HD5 : Hid (D5 = fixUp ltInt b I D4) := hD5
        obtain ⟨G2, HG2⟩ : ∃ G : Nat → Int, Hid (∀ t, G t = D[t]!) := ⟨fun t => D[t]!, fun _ => rfl⟩
        have hcw : ∀ t, t < n → wc.cell? ⟨blk, off + t, none⟩ = some (.int .u64 (G2 t)) := fun t ht => by rw [HG2.out]; exact HS1.out.cell hH hk (by omega) t (by omega)
        have hfw : ∀ t, t < n → wc.frozen? ⟨blk, off + t, none⟩ = false := fun t ht => HS1.out.frz hH hk t (by omega)
        have HW2 : Hid (SR blk off w D2 ((wc.setCell ⟨blk, off + I, none⟩ (.int .u64 (G2 (I - 1)))).setCell ⟨blk, off + (I - 1), none⟩ (.int .u64 (G2 I))).drew) := by rw [hD2]; exact HS1.out.swapD HG2.out I (I - 1) (by omega) (by omega)
        clear hD2 hD4 hD5 HE HS HS1
        go_wp2_with fail
        go_region
        generalize ((wc.setCell ⟨blk, off + I, none⟩ (.int .u64 (G2 (I - 1)))).setCell ⟨blk, off + (I - 1), none⟩ (.int .u64 (G2 I))).drew = W3 at HW2 ⊢
        clear hcw hfw HG2
        go_upto_if 61 with fail
        go_cut [9] from 13 to 132 (fun _ W => Hid (SR blk off w D4 W) ∧ D4.size = n)
        case first =>
          by_cases h2 : I - a ≥ 2
          · have h2I : 2 ≤ (I : Int) - (a : Int) := by omega
            have HF : Hid (D4 = shiftDown ltInt (I - 1) D2) := by show _ = _; rw [HD4.out]; unfold fixDown; rw [if_pos h2]
            go_wp2_with fail
            go_loopw [9] (fun v W => ∃ (j : Nat) (F : Array Int), v = .int .i64 j ∧ j < n ∧ F.size = n ∧ Hid (SR blk off w F W) ∧ Hid (shiftDown ltInt j F = D4)) (fun v _ => (intV v).toNat)
            case atStart => exact ⟨I - 1, D2, by congr 1; omega, by omega, hD2n, HW2, HF.out.symm⟩
            case round =>
              obtain ⟨j, F, rfl, hj, hFn, HF1, HF2⟩ := hrel
              obtain ⟨G, HG⟩ : ∃ G : Nat → Int, Hid (∀ t, G t = F[t]!) := ⟨fun t => F[t]!, fun _ => rfl⟩
              have hcw : ∀ t, t < n → wr.cell? ⟨blk, off + t, none⟩ = some (.int .u64 (G t)) := fun t ht => by rw [HG.out]; exact HF1.out.cell hH hk (by omega) t (by omega)
              have hfw : ∀ t, t < n → wr.frozen? ⟨blk, off + t, none⟩ = false := fun t ht => HF1.out.frz hH hk t (by omega)
              by_cases hjb : 1 ≤ j
              · have hjI : 1 ≤ (j : Int) := by omega
                have hjn : j < n := by omega
                go_wp2_with fail
                go_quiet (first | (go_at_call 55; refine Calls.quiet_of_same (less_is _ _ _)))
                go_wp2_with fail
                all_goals first
                  | (have hl : (!ltInt (G j) (G (j - 1))) = true := by assumption
                     have HP : Hid (F = D4) := by show _ = _; rw [← HF2.out, sd_stop (fun _ => by simp only [← HG.out, hl])]
                     go_meet
                     case rel => exact ⟨by rw [← HP.out]; exact HF1.out.draws nq, by rw [← HP.out]; exact hFn⟩)
                  | (have hl : (!ltInt (G j) (G (j - 1))) = false := by assumption
                     have HP : Hid ((!ltInt F[j]! F[j - 1]!) = false) := by show _ = _; simp only [← HG.out, hl]
                     go_region
                     have HW6 : Hid (SR blk off w (swp F j (j - 1)) (((wr.drewN (nq + 1)).setCell ⟨blk, off + j, none⟩ (.int .u64 (G (j - 1)))).setCell ⟨blk, off + (j - 1), none⟩ (.int .u64 (G j)))) := HF1.out.swapG HG.out _ j (j - 1) (by omega) (by omega)
                     go_wp2_with fail
                     go_roundw
                     case rel => exact ⟨j - 1, swp F j (j - 1), by congr 1; omega, by omega, by rw [size_swp]; exact hFn, HW6, by show _ = _; rw [← HF2.out, ← sd_go (by omega) HP.out]⟩
                     case measure => simp [intV]; omega)
              · have hjI : ¬ 1 ≤ (j : Int) := by omega
                have HP : Hid (F = D4) := by show _ = _; rw [← HF2.out, sd_stop (fun h => absurd h (by omega))]
                go_wp2_with fail
                go_meet
                case rel => exact ⟨by rw [← HP.out]; exact HF1.out, by rw [← HP.out]; exact hFn⟩
          · have h2I : ¬ 2 ≤ (I : Int) - (a : Int) := by omega
            have HF : Hid (D4 = D2) := by show _ = _; rw [HD4.out]; unfold fixDown; rw [if_neg h2]
            go_wp2_with fail
            go_meet
            case rel => exact ⟨by rw [HF.out]; exact HW2, by rw [HF.out]; exact hD2n⟩
        case rest =>
          obtain ⟨HW4, hD4n⟩ := hcut
          go_upto_if 98 with fail
          by_cases h2 : b - I ≥ 2
          · have h2I : 2 ≤ (b : Int) - (I : Int) := by omega
            have HF : Hid (D5 = shiftUp ltInt b (I + 1) D4) := by show _ = _; rw [HD5.out]; unfold fixUp; rw [if_pos h2]
            go_wp2_with fail
            go_loopw [10] (fun v W => ∃ (j : Nat) (F : Array Int), v = .int .i64 j ∧ (0 < j ∧ j ≤ b) ∧ F.size = n ∧ Hid (SR blk off w F W) ∧ Hid (shiftUp ltInt b j F = D5)) (fun v _ => n + 1 - (intV v).toNat)
            case atStart => exact ⟨I + 1, D4, rfl, by omega, hD4n, HW4, HF.out.symm⟩
            case round =>
              obtain ⟨j, F, rfl, hj, hFn, HF1, HF2⟩ := hrel
              obtain ⟨G, HG⟩ : ∃ G : Nat → Int, Hid (∀ t, G t = F[t]!) := ⟨fun t => F[t]!, fun _ => rfl⟩
              have hcw : ∀ t, t < n → wr.cell? ⟨blk, off + t, none⟩ = some (.int .u64 (G t)) := fun t ht => by rw [HG.out]; exact HF1.out.cell hH hk (by omega) t (by omega)
              have hfw : ∀ t, t < n → wr.frozen? ⟨blk, off + t, none⟩ = false := fun t ht => HF1.out.frz hH hk t (by omega)
              by_cases hjb : j < b
              · have hjI : (j : Int) < (b : Int) := by omega
                have hjn : j < n := by omega
                go_wp2_with fail
                go_quiet (first | (go_at_call 55; refine Calls.quiet_of_same (less_is _ _ _)))
                go_wp2_with fail
                all_goals first
                  | (have hl : (!ltInt (G j) (G (j - 1))) = true := by assumption
                     have HP : Hid (F = D5) := by show _ = _; rw [← HF2.out, su_stop (fun _ => by simp only [← HG.out, hl])]
                     go_wp2_with fail
                     go_roundw
                     case rel => exact ⟨I, t + 1, D5, rfl, rfl, by omega, by omega, by rw [← HP.out]; exact hFn, by rw [← HP.out]; exact HF1.out.draws nq, HE1⟩
                     case measure => simp [intV]; omega)
                  | (have hl : (!ltInt (G j) (G (j - 1))) = false := by assumption
                     have HP : Hid ((!ltInt F[j]! F[j - 1]!) = false) := by show _ = _; simp only [← HG.out, hl]
                     go_region
                     have HW6 : Hid (SR blk off w (swp F j (j - 1)) (((wr.drewN (nq + 1)).setCell ⟨blk, off + j, none⟩ (.int .u64 (G (j - 1)))).setCell ⟨blk, off + (j - 1), none⟩ (.int .u64 (G j)))) := HF1.out.swapG HG.out _ j (j - 1) (by omega) (by omega)
                     go_wp2_with fail
                     go_roundw
                     case rel => exact ⟨j + 1, swp F j (j - 1), rfl, by omega, by rw [size_swp]; exact hFn, HW6, by show _ = _; rw [← HF2.out, ← su_go hjb HP.out]⟩
                     case measure => simp [intV]; omega)
              · have hjI : ¬ (j : Int) < (b : Int) := by omega
                have HP : Hid (F = D5) := by show _ = _; rw [← HF2.out, su_stop (fun h => absurd h hjb)]
                go_wp2_with fail
                go_wp2_with fail
                go_roundw
                case rel => exact ⟨I, t + 1, D5, rfl, rfl, by omega, by omega, by rw [← HP.out]; exact hFn, by rw [← HP.out]; exact HF1.out, HE1⟩
                case measure => simp [intV]; omega
          · have h2I : ¬ 2 ≤ (b : Int) - (I : Int) := by omega
            have HF : Hid (D5 = D4) := by show _ = _; rw [HD5.out]; unfold fixUp; rw [if_neg h2]
            go_wp2_with fail
            go_wp2_with fail
            go_roundw
            case rel => exact ⟨I, t + 1, D5, rfl, rfl, by omega, by omega, by rw [HF.out]; exact hD4n, by rw [HF.out]; exact HW4, HE1⟩
            case measure => simp [intV]; omega
end Go.Proofs.Ytkgjmejpbklabaa
