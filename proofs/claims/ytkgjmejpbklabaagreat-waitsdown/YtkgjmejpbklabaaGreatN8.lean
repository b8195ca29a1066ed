/-
  Layer 15, the library's sort at []uint64: partitionEqual. Layer 15, the library's sort at []uint64: partialInsertionSort. Layer 15, the library's sort at []uint64: pdqsort. Layer 15, the library's slices.Sort, Compact at []uint64.
-/
import Derived.Test.YtkgjmejpbklabaaGreatN7
import Derived.Test.YtkgjmejpbklabaaGreatN6
import Derived.Shelf.SlicesE.Compact
namespace Go.Proofs.YtkgjmejpbklabaaGreat
open Go.RowKit
open Go.Sort
set_option maxHeartbeats 2000000 in
set_option maxRecDepth 100000 in
theorem parteq_at {blk off cap n a b pv : Nat} {d : Array Int} {w : World} (hN : d.size = n) (hH : Holds uE w blk off d) (hk : blk < w.heap.size) (hap : a ≤ pv) (hpb : pv < b) (hb : b ≤ n) (hz : n < 2305843009213693952) :
    Calls Tryz.prog 105 #[.slice (some ⟨blk, off, none⟩) n cap, .int .i64 a, .int .i64 b, .int .i64 pv] w fun e w' => e = .returned (.int .i64 ((partitionEqual ltInt d a b pv).1 : Nat)) ∧ SR blk off w (partitionEqual ltInt d a b pv).2 w' := by
  obtain ⟨D, hD⟩ : ∃ D, D = swp d a pv := ⟨_, rfl⟩
  have hDn : D.size = n := by rw [hD, size_swp]; exact hN
  obtain ⟨G, HG⟩ : ∃ G : Nat → Int, Hid (∀ t, G t = d[t]!) := ⟨fun t => d[t]!, fun _ => rfl⟩
  have hcw : ∀ t, t < n → w.cell? ⟨blk, off + t, none⟩ = some (.int .u64 (G t)) := fun t ht => by rw [HG.out]; exact (hH t (by omega)).1
  have hfw : ∀ t, t < n → w.frozen? ⟨blk, off + t, none⟩ = false := fun t ht => (hH t (by omega)).2
  have hc2 := two_cell hcw a pv (by omega)
  have HW : Hid (SR blk off w D ((w.setCell ⟨blk, off + a, none⟩ (.int .u64 (G pv))).setCell ⟨blk, off + pv, none⟩ (.int .u64 (G a))).drew) := by rw [hD]; exact (SR.self hH).swapD HG.out a pv (by omega) (by omega)
  have HE : Hid (partitionEqual ltInt d a b pv = partEqLoop ltInt a (a + 1) (b - 1) D) := by
    show _ = _
    unfold partitionEqual
    rw [hD]
  generalize partitionEqual ltInt d a b pv = PT at HE ⊢
  clear hD
  go_enter Tryz.func105, Tryz.ntmps105
  go_wp2_with fail
  go_region
  generalize ((w.setCell ⟨blk, off + a, none⟩ (.int .u64 (G pv))).setCell ⟨blk, off + pv, none⟩ (.int .u64 (G a))).drew = W1 at HW ⊢
  clear hc2 hcw hfw HG
  go_wp2_with fail
  go_loopw [9, 10] (fun v v2 W => ∃ (i3 j3 : Nat) (D3 : Array Int), v = .int .i64 i3 ∧ v2 = .int .i64 j3 ∧ (a < i3 ∧ i3 ≤ j3 + 2 ∧ j3 < n) ∧ D3.size = n ∧ Hid (SR blk off w D3 W) ∧ Hid (partEqLoop ltInt a i3 j3 D3 = PT)) (fun v v2 _ => (intV v2 + 1 - intV v).toNat)
  case atStart => exact ⟨a + 1, b - 1, D, rfl, by congr 1; omega, by omega, hDn, HW, HE.out.symm⟩
  case round =>
    obtain ⟨i3, j3, D3, rfl, rfl, hij3, hD3n, HS3, HR3⟩ := hrel
    obtain ⟨I3, hI3⟩ : ∃ I, I = scanUp (fun x => !ltInt D3[a]! x) D3 j3 i3 := ⟨_, rfl⟩
    obtain ⟨J3, hJ3⟩ : ∃ J, J = scanDown (fun x => ltInt D3[a]! x) D3 I3 j3 := ⟨_, rfl⟩
    have HE3 : Hid (PT = if I3 > J3 then (I3, D3) else partEqLoop ltInt a (I3 + 1) (J3 - 1) (swp D3 I3 J3)) := by
      show _ = _
      rw [← HR3.out, partEqLoop_eq]
      simp only [← hI3, ← hJ3]
    have HI3 : Hid (I3 = scanUp (fun x => !ltInt D3[a]! x) D3 j3 i3) := hI3
    have HJ3 : Hid (J3 = scanDown (fun x => ltInt D3[a]! x) D3 I3 j3) := hJ3
    clear hI3 hJ3 HR3 HE
    go_upto_block 2 with fail
    go_cut [9] from 29 to 82 (fun v W => v = .int .i64 (I3 : Int) ∧ Hid (SR blk off w D3 W) ∧ Hid (i3 ≤ I3 ∧ I3 ≤ j3 + 2))
    case first =>
      go_wp2_with fail
      go_loopw [9] (fun v W => ∃ i : Nat, v = .int .i64 i ∧ (i3 ≤ i ∧ i ≤ j3 + 2) ∧ Hid (SR blk off w D3 W) ∧ Hid (scanUp (fun x => !ltInt D3[a]! x) D3 (j3) i = I3)) (fun v _ => n + 1 - (intV v).toNat)
      case atStart => exact ⟨i3, rfl, by omega, HS3, HI3.out.symm⟩
      case round =>
        obtain ⟨i, rfl, hi, HSu, HU⟩ := hrel
        obtain ⟨G, HG⟩ : ∃ G : Nat → Int, Hid (∀ t, G t = D3[t]!) := ⟨fun t => D3[t]!, fun _ => rfl⟩
        have hcw : ∀ t, t < n → wr.cell? ⟨blk, off + t, none⟩ = some (.int .u64 (G t)) := fun t ht => by rw [HG.out]; exact HSu.out.cell hH hk (by omega) t (by omega)
        have hfw : ∀ t, t < n → wr.frozen? ⟨blk, off + t, none⟩ = false := fun t ht => HSu.out.frz hH hk t (by omega)
        by_cases hij : i ≤ j3
        · have hd : decide ((i : Int) ≤ (j3 : Int)) = true := decide_eq_true (by omega)
          have hd2 : (i : Int) ≤ (j3 : Int) := by omega
          go_wp2_with fail
          go_quiet (first | (go_at_call 104; refine Calls.quiet_of_same (less_is _ _ _)))
          go_wp2_with fail
          all_goals first
            | (have hl : (!ltInt (G a) (G i)) = true := by assumption
               have HP : Hid ((fun x => !ltInt D3[a]! x) D3[i]! = true) := by show _ = _; simp only [← HG.out, hl]
               go_roundw
               case rel => exact ⟨i + 1, rfl, by omega, HSu.out.draws nq, by show _ = _; rw [← HU.out, ← up_go hij HP.out]⟩
               case measure => simp [intV]; omega)
            | (have hl : (!ltInt (G a) (G i)) = false := by assumption
               have HP : Hid (i ≤ j3 → (fun x => !ltInt D3[a]! x) D3[i]! = false) := fun _ => by simp only [← HG.out, hl]
               have HV : Hid (I3 = i) := by show _ = _; rw [← HU.out, up_end HP.out]
               go_meet
               case rel => exact ⟨by rw [HV.out], HSu.out.draws nq, by show _ ∧ _; rw [HV.out]; omega⟩)
        · have hd : decide ((i : Int) ≤ (j3 : Int)) = false := decide_eq_false (by omega)
          have HV : Hid (I3 = i) := by show _ = _; rw [← HU.out, up_end (fun h => absurd h hij)]
          go_wp2_with fail
          go_quiet (first | (go_at_call 104; refine Calls.quiet_of_same (less_is _ _ _)))
          go_wp2_with fail
          go_meet
          case rel => exact ⟨by rw [HV.out], HSu.out.draws nq, by show _ ∧ _; rw [HV.out]; omega⟩
    case rest =>
      obtain ⟨rfl, HS4, HB4⟩ := hcut
      have hI4 := HB4.out
      go_upto_block 4 with fail
      go_cut [10] from 29 to 82 (fun v W => v = .int .i64 (J3 : Int) ∧ Hid (SR blk off w D3 W) ∧ Hid (J3 ≤ j3 ∧ I3 ≤ J3 + 2))
      case first =>
        go_wp2_with fail
        go_loopw [10] (fun v W => ∃ j : Nat, v = .int .i64 j ∧ (j ≤ j3 ∧ I3 ≤ j + 2) ∧ Hid (SR blk off w D3 W) ∧ Hid (scanDown (fun x => ltInt D3[a]! x) D3 I3 j = J3)) (fun v _ => (intV v).toNat)
        case atStart => exact ⟨j3, rfl, by omega, HS4, HJ3.out.symm⟩
        case round =>
          obtain ⟨j, rfl, hj, HSu, HU⟩ := hrel
          obtain ⟨G, HG⟩ : ∃ G : Nat → Int, Hid (∀ t, G t = D3[t]!) := ⟨fun t => D3[t]!, fun _ => rfl⟩
          have hcw : ∀ t, t < n → wr.cell? ⟨blk, off + t, none⟩ = some (.int .u64 (G t)) := fun t ht => by rw [HG.out]; exact HSu.out.cell hH hk (by omega) t (by omega)
          have hfw : ∀ t, t < n → wr.frozen? ⟨blk, off + t, none⟩ = false := fun t ht => HSu.out.frz hH hk t (by omega)
          have hjn : j < n := by omega
          by_cases hij : I3 ≤ j
          · have hd : decide ((I3 : Int) ≤ (j : Int)) = true := decide_eq_true (by omega)
            have hd2 : (I3 : Int) ≤ (j : Int) := by omega
            go_wp2_with fail
            go_quiet (first | (go_at_call 104; refine Calls.quiet_of_same (less_is _ _ _)))
            go_wp2_with fail
            all_goals first
              | (have hl : ltInt (G a) (G j) = true := by assumption
                 have HP : Hid ((fun x => ltInt D3[a]! x) D3[j]! = true) := by show _ = _; simp only [← HG.out, hl]
                 go_roundw
                 case rel => exact ⟨j - 1, by congr 1; omega, by omega, HSu.out.draws nq, by show _ = _; rw [← HU.out, ← dn_go (by omega) hij HP.out]⟩
                 case measure => simp [intV]; omega)
              | (have hl : ltInt (G a) (G j) = false := by assumption
                 have HP : Hid (I3 ≤ j → (fun x => ltInt D3[a]! x) D3[j]! = false) := fun _ => by simp only [← HG.out, hl]
                 have HV : Hid (J3 = j) := by show _ = _; rw [← HU.out, dn_end HP.out]
                 go_meet
                 case rel => exact ⟨by rw [HV.out], HSu.out.draws nq, by show _ ∧ _; rw [HV.out]; omega⟩)
          · have hd : decide ((I3 : Int) ≤ (j : Int)) = false := decide_eq_false (by omega)
            have HV : Hid (J3 = j) := by show _ = _; rw [← HU.out, dn_end (fun h => absurd h hij)]
            go_wp2_with fail
            go_quiet (first | (go_at_call 104; refine Calls.quiet_of_same (less_is _ _ _)))
            go_wp2_with fail
            go_meet
            case rel => exact ⟨by rw [HV.out], HSu.out.draws nq, by show _ ∧ _; rw [HV.out]; omega⟩
      case rest =>
        obtain ⟨rfl, HS5, HB5⟩ := hcut
        have hJ4 := HB5.out
        have hJ3n : J3 < n := by omega
        have hI3n : I3 ≤ n + 1 := by omega
        obtain ⟨G5, HG5⟩ : ∃ G : Nat → Int, Hid (∀ t, G t = D3[t]!) := ⟨fun t => D3[t]!, fun _ => rfl⟩
        have hcw : ∀ t, t < n → wc.cell? ⟨blk, off + t, none⟩ = some (.int .u64 (G5 t)) := fun t ht => by rw [HG5.out]; exact HS5.out.cell hH hk (by omega) t (by omega)
        have hfw : ∀ t, t < n → wc.frozen? ⟨blk, off + t, none⟩ = false := fun t ht => HS5.out.frz hH hk t (by omega)
        by_cases hIJ3 : I3 > J3
        · have HE5 : Hid (PT = (I3, D3)) := by show _ = _; rw [HE3.out, if_pos hIJ3]
          go_wp2_with fail
          go_ret
          rw [HE5.out]
          exact ⟨rfl, HS5.out⟩
        · have hc2 := two_cell hcw I3 J3 (by omega)
          have HW5 : Hid (SR blk off w (swp D3 I3 J3) ((wc.setCell ⟨blk, off + I3, none⟩ (.int .u64 (G5 J3))).setCell ⟨blk, off + J3, none⟩ (.int .u64 (G5 I3))).drew) := HS5.out.swapD HG5.out I3 J3 (by omega) (by omega)
          have HE5 : Hid (partEqLoop ltInt a (I3 + 1) (J3 - 1) (swp D3 I3 J3) = PT) := by show _ = _; rw [HE3.out, if_neg hIJ3]
          go_wp2_with fail
          go_region
          go_wp2_with fail
          go_roundw
          case rel => exact ⟨I3 + 1, J3 - 1, swp D3 I3 J3, rfl, by congr 1; omega, by omega, by rw [size_swp]; exact hD3n, HW5, HE5⟩
          case measure => simp [intV]; omega
end Go.Proofs.YtkgjmejpbklabaaGreat
namespace Go.Proofs.YtkgjmejpbklabaaGreat
open Go.RowKit
open Go.Sort
theorem ss_go {d : Array Int} {i b : Nat} (h : i < b) (hp : (!ltInt d[i]! d[i - 1]!) = true) : scanSorted ltInt d b i = scanSorted ltInt d b (i + 1) := by rw [scanSorted, if_pos (by simp [h]; simpa using hp)]
theorem ss_end {d : Array Int} {i b : Nat} (h : i < b → (!ltInt d[i]! d[i - 1]!) = false) : scanSorted ltInt d b i = i := by
  rw [scanSorted, if_neg]
  intro hc
  simp only [Bool.and_eq_true, decide_eq_true_eq] at hc
  rw [h hc.1] at hc; simp at hc
theorem sd_stop {d : Array Int} {j : Nat} (h : 0 < j → (!ltInt d[j]! d[j - 1]!) = true) : shiftDown ltInt j d = d := by
  cases j with
  | zero => rfl
  | succ j => have := h (by omega); simp only [Nat.add_sub_cancel] at this; simp only [shiftDown]; rw [if_pos this]
theorem sd_go {d : Array Int} {j : Nat} (h0 : 0 < j) (h : (!ltInt d[j]! d[j - 1]!) = false) : shiftDown ltInt j d = shiftDown ltInt (j - 1) (swp d j (j - 1)) := by
  cases j with
  | zero => omega
  | succ j => simp only [Nat.add_sub_cancel] at h ⊢; simp only [shiftDown]; rw [if_neg (by rw [h]; simp)]
theorem su_stop {d : Array Int} {b j : Nat} (h : j < b → (!ltInt d[j]! d[j - 1]!) = true) : shiftUp ltInt b j d = d := by
  rw [shiftUp]
  by_cases hj : j < b
  · rw [if_pos hj, if_pos (h hj)]
  · rw [if_neg hj]
theorem su_go {d : Array Int} {b j : Nat} (hj : j < b) (h : (!ltInt d[j]! d[j - 1]!) = false) : shiftUp ltInt b j d = shiftUp ltInt b (j + 1) (swp d j (j - 1)) := by
  rw [shiftUp, if_pos hj, if_neg (by rw [h]; simp)]
set_option maxHeartbeats 2000000 in
set_option maxRecDepth 100000 in
theorem pins_at {blk off cap n a b : Nat} {d : Array Int} {w : World} (hN : d.size = n) (hH : Holds uE w blk off d) (hk : blk < w.heap.size) (hab : a < b) (hb : b ≤ n) (hz : n < 2305843009213693952) :
    Calls Tryz.prog 103 #[.slice (some ⟨blk, off, none⟩) n cap, .int .i64 a, .int .i64 b] w fun e w' => e = .returned (.bool (partialInsertionSort ltInt d a b).2) ∧ SR blk off w (partialInsertionSort ltInt d a b).1 w' := by
  have HE : Hid (partialIns ltInt a b 5 (a + 1) d = partialInsertionSort ltInt d a b) := rfl
  generalize partialInsertionSort ltInt d a b = PT at HE ⊢
  have HW : Hid (SR blk off w d w) := SR.self hH
  go_enter Tryz.func103, Tryz.ntmps103
  go_wp2_with fail
  go_loopw [7, 8] (fun v v2 W => ∃ (i t : Nat) (D : Array Int), v = .int .i64 i ∧ v2 = .int .i64 t ∧ t ≤ 5 ∧ (a < i ∧ i ≤ b) ∧ D.size = n ∧ Hid (SR blk off w D W) ∧ Hid (partialIns ltInt a b (5 - t) i D = PT)) (fun v v2 _ => 5 - (intV v2).toNat)
  case atStart => exact ⟨a + 1, 0, d, rfl, rfl, by omega, by omega, hN, HW, HE⟩
  case round =>
    obtain ⟨i0, t, D, rfl, rfl, ht, hi0, hDn, HS, HO⟩ := hrel
    clear HE HW
    by_cases ht5 : t = 5
    · subst ht5
      go_wp2_with fail
      go_ret
      rw [← HO.out]
      exact ⟨rfl, HS.out⟩
    · obtain ⟨s, hs⟩ : ∃ s, 5 - t = s + 1 := ⟨4 - t, by omega⟩
      obtain ⟨I, hI⟩ : ∃ I, I = scanSorted ltInt D b i0 := ⟨_, rfl⟩
      have HE : Hid (PT = if I = b then (D, true) else if b - a < 50 then (D, false) else partialIns ltInt a b s I (fixUp ltInt b I (fixDown ltInt a I (swp D I (I - 1))))) := by
        show _ = _
        rw [← HO.out, hs, partialIns_succ, ← hI]
      have HI : Hid (I = scanSorted ltInt D b i0) := hI
      have hts : s = 5 - (t + 1) := by omega
      have HTS : Hid (s = 5 - (t + 1)) := hts
      clear HO hI hs hts
      go_upto_block 2 with fail
      go_cut [7] from 13 to 132 (fun v W => v = .int .i64 (I : Int) ∧ Hid (SR blk off w D W) ∧ Hid (i0 ≤ I ∧ I ≤ b))
      case first =>
        go_wp2_with fail
        go_loopw [7] (fun v W => ∃ i : Nat, v = .int .i64 i ∧ (i0 ≤ i ∧ i ≤ b) ∧ Hid (SR blk off w D W) ∧ Hid (scanSorted ltInt D b i = I)) (fun v _ => n + 1 - (intV v).toNat)
        case atStart => exact ⟨i0, rfl, by omega, HS, HI.out.symm⟩
        case round =>
          obtain ⟨i, rfl, hi, HSu, HU⟩ := hrel
          obtain ⟨G, HG⟩ : ∃ G : Nat → Int, Hid (∀ t, G t = D[t]!) := ⟨fun t => D[t]!, fun _ => rfl⟩
          have hcw : ∀ t, t < n → wr.cell? ⟨blk, off + t, none⟩ = some (.int .u64 (G t)) := fun t ht => by rw [HG.out]; exact HSu.out.cell hH hk (by omega) t (by omega)
          have hfw : ∀ t, t < n → wr.frozen? ⟨blk, off + t, none⟩ = false := fun t ht => HSu.out.frz hH hk t (by omega)
          by_cases hij : i < b
          · have hd : decide ((i : Int) < (b : Int)) = true := decide_eq_true (by omega)
            have hd2 : (i : Int) < (b : Int) := by omega
            go_wp2_with fail
            go_quiet (first | (go_at_call 104; refine Calls.quiet_of_same (less_is _ _ _)))
            go_wp2_with fail
            all_goals first
              | (have hl : (!ltInt (G i) (G (i - 1))) = true := by assumption
                 have HP : Hid ((!ltInt D[i]! D[i - 1]!) = true) := by show _ = _; simp only [← HG.out, hl]
                 go_roundw
                 case rel => exact ⟨i + 1, rfl, by omega, HSu.out.draws nq, by show _ = _; rw [← HU.out, ← ss_go hij HP.out]⟩
                 case measure => simp [intV]; omega)
              | (have hl : (!ltInt (G i) (G (i - 1))) = false := by assumption
                 have HP : Hid (i < b → (!ltInt D[i]! D[i - 1]!) = false) := fun _ => by simp only [← HG.out, hl]
                 have HV : Hid (I = i) := by show _ = _; rw [← HU.out, ss_end HP.out]
                 go_meet
                 case rel => exact ⟨by rw [HV.out], HSu.out.draws nq, by show _ ∧ _; rw [HV.out]; omega⟩)
          · have hd : decide ((i : Int) < (b : Int)) = false := decide_eq_false (by omega)
            have HV : Hid (I = i) := by show _ = _; rw [← HU.out, ss_end (fun h => absurd h hij)]
            go_wp2_with fail
            go_quiet (first | (go_at_call 104; refine Calls.quiet_of_same (less_is _ _ _)))
            go_wp2_with fail
            go_meet
            case rel => exact ⟨by rw [HV.out], HSu.out.draws nq, by show _ ∧ _; rw [HV.out]; omega⟩
      case rest =>
        obtain ⟨rfl, HS1, HB1⟩ := hcut
        have hI1 := HB1.out
        by_cases hIb : I = b
        · have HE1 : Hid (PT = (D, true)) := by show _ = _; rw [HE.out, if_pos hIb]
          subst hIb
          go_wp2_with fail
          go_ret
          rw [HE1.out]
          exact ⟨rfl, HS1.out⟩
        by_cases h50 : b - a < 50
        · have HE1 : Hid (PT = (D, false)) := by show _ = _; rw [HE.out, if_neg hIb, if_pos h50]
          have h50I : (b : Int) - (a : Int) < 50 := by omega
          have hIbI : ¬ (I : Int) = (b : Int) := by omega
          go_wp2_with fail
          go_ret
          rw [HE1.out]
          exact ⟨rfl, HS1.out⟩
        have hIbI : ¬ (I : Int) = (b : Int) := by omega
        have h50I : ¬ (b : Int) - (a : Int) < 50 := by omega
        obtain ⟨D2, hD2⟩ : ∃ D2, D2 = swp D I (I - 1) := ⟨_, rfl⟩
        have hD2n : D2.size = n := by rw [hD2, size_swp]; exact hDn
        obtain ⟨D4, hD4⟩ : ∃ D4, D4 = fixDown ltInt a I D2 := ⟨_, rfl⟩
        obtain ⟨D5, hD5⟩ : ∃ D5, D5 = fixUp ltInt b I D4 := ⟨_, rfl⟩
        have HE1 : Hid (partialIns ltInt a b (5 - (t + 1)) I D5 = PT) := by show _ = _; rw [HE.out, if_neg hIb, if_neg h50, hD5, hD4, hD2, HTS.out]
        have HD4 : Hid (D4 = fixDown ltInt a I D2) := hD4
        have HD5 : Hid (D5 = fixUp ltInt b I D4) := hD5
        obtain ⟨G2, HG2⟩ : ∃ G : Nat → Int, Hid (∀ t, G t = D[t]!) := ⟨fun t => D[t]!, fun _ => rfl⟩
        have hcw : ∀ t, t < n → wc.cell? ⟨blk, off + t, none⟩ = some (.int .u64 (G2 t)) := fun t ht => by rw [HG2.out]; exact HS1.out.cell hH hk (by omega) t (by omega)
        have hfw : ∀ t, t < n → wc.frozen? ⟨blk, off + t, none⟩ = false := fun t ht => HS1.out.frz hH hk t (by omega)
        have HW2 : Hid (SR blk off w D2 ((wc.setCell ⟨blk, off + I, none⟩ (.int .u64 (G2 (I - 1)))).setCell ⟨blk, off + (I - 1), none⟩ (.int .u64 (G2 I))).drew) := by rw [hD2]; exact HS1.out.swapD HG2.out I (I - 1) (by omega) (by omega)
        clear hD2 hD4 hD5 HE HS HS1
        go_wp2_with fail
        go_region
        generalize ((wc.setCell ⟨blk, off + I, none⟩ (.int .u64 (G2 (I - 1)))).setCell ⟨blk, off + (I - 1), none⟩ (.int .u64 (G2 I))).drew = W3 at HW2 ⊢
        clear hcw hfw HG2
        go_upto_if 61 with fail
        go_cut [9] from 13 to 132 (fun _ W => Hid (SR blk off w D4 W) ∧ D4.size = n)
        case first =>
          by_cases h2 : I - a ≥ 2
          · have h2I : 2 ≤ (I : Int) - (a : Int) := by omega
            have HF : Hid (D4 = shiftDown ltInt (I - 1) D2) := by show _ = _; rw [HD4.out]; unfold fixDown; rw [if_pos h2]
            go_wp2_with fail
            go_loopw [9] (fun v W => ∃ (j : Nat) (F : Array Int), v = .int .i64 j ∧ j < n ∧ F.size = n ∧ Hid (SR blk off w F W) ∧ Hid (shiftDown ltInt j F = D4)) (fun v _ => (intV v).toNat)
            case atStart => exact ⟨I - 1, D2, by congr 1; omega, by omega, hD2n, HW2, HF.out.symm⟩
            case round =>
              obtain ⟨j, F, rfl, hj, hFn, HF1, HF2⟩ := hrel
              obtain ⟨G, HG⟩ : ∃ G : Nat → Int, Hid (∀ t, G t = F[t]!) := ⟨fun t => F[t]!, fun _ => rfl⟩
              have hcw : ∀ t, t < n → wr.cell? ⟨blk, off + t, none⟩ = some (.int .u64 (G t)) := fun t ht => by rw [HG.out]; exact HF1.out.cell hH hk (by omega) t (by omega)
              have hfw : ∀ t, t < n → wr.frozen? ⟨blk, off + t, none⟩ = false := fun t ht => HF1.out.frz hH hk t (by omega)
              by_cases hjb : 1 ≤ j
              · have hjI : 1 ≤ (j : Int) := by omega
                have hjn : j < n := by omega
                go_wp2_with fail
                go_quiet (first | (go_at_call 104; refine Calls.quiet_of_same (less_is _ _ _)))
                go_wp2_with fail
                all_goals first
                  | (have hl : (!ltInt (G j) (G (j - 1))) = true := by assumption
                     have HP : Hid (F = D4) := by show _ = _; rw [← HF2.out, sd_stop (fun _ => by simp only [← HG.out, hl])]
                     go_meet
                     case rel => exact ⟨by rw [← HP.out]; exact HF1.out.draws nq, by rw [← HP.out]; exact hFn⟩)
                  | (have hl : (!ltInt (G j) (G (j - 1))) = false := by assumption
                     have HP : Hid ((!ltInt F[j]! F[j - 1]!) = false) := by show _ = _; simp only [← HG.out, hl]
                     go_region
                     have HW6 : Hid (SR blk off w (swp F j (j - 1)) (((wr.drewN (nq + 1)).setCell ⟨blk, off + j, none⟩ (.int .u64 (G (j - 1)))).setCell ⟨blk, off + (j - 1), none⟩ (.int .u64 (G j)))) := HF1.out.swapG HG.out _ j (j - 1) (by omega) (by omega)
                     go_wp2_with fail
                     go_roundw
                     case rel => exact ⟨j - 1, swp F j (j - 1), by congr 1; omega, by omega, by rw [size_swp]; exact hFn, HW6, by show _ = _; rw [← HF2.out, ← sd_go (by omega) HP.out]⟩
                     case measure => simp [intV]; omega)
              · have hjI : ¬ 1 ≤ (j : Int) := by omega
                have HP : Hid (F = D4) := by show _ = _; rw [← HF2.out, sd_stop (fun h => absurd h (by omega))]
                go_wp2_with fail
                go_meet
                case rel => exact ⟨by rw [← HP.out]; exact HF1.out, by rw [← HP.out]; exact hFn⟩
          · have h2I : ¬ 2 ≤ (I : Int) - (a : Int) := by omega
            have HF : Hid (D4 = D2) := by show _ = _; rw [HD4.out]; unfold fixDown; rw [if_neg h2]
            go_wp2_with fail
            go_meet
            case rel => exact ⟨by rw [HF.out]; exact HW2, by rw [HF.out]; exact hD2n⟩
        case rest =>
          obtain ⟨HW4, hD4n⟩ := hcut
          go_upto_if 98 with fail
          by_cases h2 : b - I ≥ 2
          · have h2I : 2 ≤ (b : Int) - (I : Int) := by omega
            have HF : Hid (D5 = shiftUp ltInt b (I + 1) D4) := by show _ = _; rw [HD5.out]; unfold fixUp; rw [if_pos h2]
            go_wp2_with fail
            go_loopw [10] (fun v W => ∃ (j : Nat) (F : Array Int), v = .int .i64 j ∧ (0 < j ∧ j ≤ b) ∧ F.size = n ∧ Hid (SR blk off w F W) ∧ Hid (shiftUp ltInt b j F = D5)) (fun v _ => n + 1 - (intV v).toNat)
            case atStart => exact ⟨I + 1, D4, rfl, by omega, hD4n, HW4, HF.out.symm⟩
            case round =>
              obtain ⟨j, F, rfl, hj, hFn, HF1, HF2⟩ := hrel
              obtain ⟨G, HG⟩ : ∃ G : Nat → Int, Hid (∀ t, G t = F[t]!) := ⟨fun t => F[t]!, fun _ => rfl⟩
              have hcw : ∀ t, t < n → wr.cell? ⟨blk, off + t, none⟩ = some (.int .u64 (G t)) := fun t ht => by rw [HG.out]; exact HF1.out.cell hH hk (by omega) t (by omega)
              have hfw : ∀ t, t < n → wr.frozen? ⟨blk, off + t, none⟩ = false := fun t ht => HF1.out.frz hH hk t (by omega)
              by_cases hjb : j < b
              · have hjI : (j : Int) < (b : Int) := by omega
                have hjn : j < n := by omega
                go_wp2_with fail
                go_quiet (first | (go_at_call 104; refine Calls.quiet_of_same (less_is _ _ _)))
                go_wp2_with fail
                all_goals first
                  | (have hl : (!ltInt (G j) (G (j - 1))) = true := by assumption
                     have HP : Hid (F = D5) := by show _ = _; rw [← HF2.out, su_stop (fun _ => by simp only [← HG.out, hl])]
                     go_wp2_with fail
                     go_roundw
                     case rel => exact ⟨I, t + 1, D5, rfl, rfl, by omega, by omega, by rw [← HP.out]; exact hFn, by rw [← HP.out]; exact HF1.out.draws nq, HE1⟩
                     case measure => simp [intV]; omega)
                  | (have hl : (!ltInt (G j) (G (j - 1))) = false := by assumption
                     have HP : Hid ((!ltInt F[j]! F[j - 1]!) = false) := by show _ = _; simp only [← HG.out, hl]
                     go_region
                     have HW6 : Hid (SR blk off w (swp F j (j - 1)) (((wr.drewN (nq + 1)).setCell ⟨blk, off + j, none⟩ (.int .u64 (G (j - 1)))).setCell ⟨blk, off + (j - 1), none⟩ (.int .u64 (G j)))) := HF1.out.swapG HG.out _ j (j - 1) (by omega) (by omega)
                     go_wp2_with fail
                     go_roundw
                     case rel => exact ⟨j + 1, swp F j (j - 1), rfl, by omega, by rw [size_swp]; exact hFn, HW6, by show _ = _; rw [← HF2.out, ← su_go hjb HP.out]⟩
                     case measure => simp [intV]; omega)
              · have hjI : ¬ (j : Int) < (b : Int) := by omega
                have HP : Hid (F = D5) := by show _ = _; rw [← HF2.out, su_stop (fun h => absurd h hjb)]
                go_wp2_with fail
                go_wp2_with fail
                go_roundw
                case rel => exact ⟨I, t + 1, D5, rfl, rfl, by omega, by omega, by rw [← HP.out]; exact hFn, by rw [← HP.out]; exact HF1.out, HE1⟩
                case measure => simp [intV]; omega
          · have h2I : ¬ 2 ≤ (b : Int) - (I : Int) := by omega
            have HF : Hid (D5 = D4) := by show _ = _; rw [HD5.out]; unfold fixUp; rw [if_neg h2]
            go_wp2_with fail
            go_wp2_with fail
            go_roundw
            case rel => exact ⟨I, t + 1, D5, rfl, rfl, by omega, by omega, by rw [HF.out]; exact hD4n, by rw [HF.out]; exact HW4, HE1⟩
            case measure => simp [intV]; omega
end Go.Proofs.YtkgjmejpbklabaaGreat
namespace Go.Proofs.YtkgjmejpbklabaaGreat
open Go.RowKit
open Go.Sort
/-- behind the call the part [a, b) of the row is sorted -/
def Sorts (blk off a b : Nat) (w : World) (d : Array Int) (w' : World) : Prop := ∃ R, PermIn a b d R ∧ SortedIn ltInt a b R ∧ SR blk off w R w'
/-- who sorts a part has sorted the whole -/
def Leads (a b : Nat) (D : Array Int) (a0 b0 : Nat) (d : Array Int) : Prop := ∀ R, PermIn a b D R → SortedIn ltInt a b R → PermIn a0 b0 d R ∧ SortedIn ltInt a0 b0 R
theorem heap_n {blk off cap a b n : Nat} {d : Array Int} {w : World} (hN : d.size = n) (hH : Holds uE w blk off d) (hk : blk < w.heap.size) (hab : a < b) (hb : b ≤ n) (hz : n < 2305843009213693952) :
    Calls Tryz.prog 99 #[.slice (some ⟨blk, off, none⟩) n cap, .int .i64 a, .int .i64 b] w fun e w' => e = .returned (.tuple #[]) ∧ SR blk off w (heapSort ltInt d a b) w' := by
  subst hN; exact heap_at hH hk hab hb hz
theorem ins_n {blk off cap a b n : Nat} {d : Array Int} {w : World} (hN : d.size = n) (hH : Holds uE w blk off d) (hk : blk < w.heap.size) (hab : a ≤ b) (hb : b ≤ n) (hz : n < 2305843009213693952) :
    Calls Tryz.prog 98 #[.slice (some ⟨blk, off, none⟩) n cap, .int .i64 a, .int .i64 b] w fun e w' => e = .returned (.tuple #[]) ∧ SR blk off w (insertionSort ltInt d a b) w' := by
  subst hN; exact insertion_at hH hk hab hb (by omega)
theorem Leads.perm {a b a0 b0 : Nat} {D D1 d : Array Int} (h : Leads a b D a0 b0 d) (hp : PermIn a b D D1) : Leads a b D1 a0 b0 d := fun R h1 h2 => h R (permIn_trans _ _ _ a b hp h1) h2
set_option maxHeartbeats 2000000 in
set_option maxRecDepth 100000 in
theorem pdq_at : ∀ (m : Nat) {blk off cap n a0 b0 l0 : Nat} {d : Array Int} {w : World}, b0 - a0 ≤ m → d.size = n → Holds uE w blk off d → blk < w.heap.size → a0 ≤ b0 → b0 ≤ n → n < 2305843009213693952 → l0 < 2305843009213693952 → Sort.Below ltInt a0 b0 d →
    Calls Tryz.prog 81 #[.slice (some ⟨blk, off, none⟩) n cap, .int .i64 a0, .int .i64 b0, .int .i64 l0] w fun e w' => e = .returned (.tuple #[]) ∧ Sorts blk off a0 b0 w d w' := by
  intro m
  induction m using Nat.strongRecOn with
  | ind m ih =>
  intro blk off cap n a0 b0 l0 d w hm hN hH hk hab0 hb0 hz hl0 hB0
  have IH : Hid (∀ (k : Nat), k < m → ∀ {a b l : Nat} {d : Array Int} {w : World}, b - a ≤ k → d.size = n → Holds uE w blk off d → blk < w.heap.size → a ≤ b → b ≤ n → l < 2305843009213693952 → Sort.Below ltInt a b d →
    Calls Tryz.prog 81 #[.slice (some ⟨blk, off, none⟩) n cap, .int .i64 a, .int .i64 b, .int .i64 l] w fun e w' => e = .returned (.tuple #[]) ∧ Sorts blk off a b w d w') :=
    fun k hk {a b l d w} h1 h2 h3 h4 h5 h6 h7 h8 => ih k hk h1 h2 h3 h4 h5 h6 hz h7 h8
  clear ih
  have HB0 : Hid (Sort.Below ltInt a0 b0 d) := hB0
  clear hB0
  go_enter Tryz.func81, Tryz.ntmps81
  go_wp2_with fail
  go_loopw [1, 2, 3, 8, 9] (fun v1 v2 v3 v8 v9 W => ∃ (a b l : Nat) (wb wp : Bool) (D : Array Int), v1 = .int .i64 a ∧ v2 = .int .i64 b ∧ v3 = .int .i64 l ∧ v8 = .bool wb ∧ v9 = .bool wp ∧ (a ≤ b ∧ b ≤ n ∧ b - a ≤ m ∧ l < 2305843009213693952) ∧ D.size = n ∧ Hid (SR blk off w D W) ∧ Hid (Sort.Below ltInt a b D) ∧ Hid (Leads a b D a0 b0 d)) (fun v1 v2 _ _ _ _ => (intV v2 - intV v1).toNat)
  case atStart => exact ⟨a0, b0, l0, true, true, d, rfl, rfl, rfl, rfl, rfl, by omega, hN, SR.self hH, HB0, fun R h1 h2 => ⟨h1, h2⟩⟩
  case round =>
    obtain ⟨a, b, l, wb, wp, D, rfl, rfl, rfl, rfl, rfl, hr, hDn, HS, HB, HL⟩ := hrel
    by_cases h12 : b - a ≤ 12
    · have h12I : (b : Int) - (a : Int) ≤ 12 := by omega
      go_wp2_with (go_at_call 98; refine (ins_n hDn (HS.out.holds hH hk (by omega)) (Nat.lt_of_lt_of_le hk HS.out.size) (by omega) (by omega) hz).mono ?_; rintro e w' ⟨rfl, h1⟩; have H1 : Hid (SR blk off wr (insertionSort ltInt D a b) w') := h1; clear h1)
      (try simp only [Exit.inBlock, Exit.then])
      refine bodyPost_ret (results_none rfl _ _ _) rfl ?_
      have hI := insertionSort_holds (lt := ltInt) swo_ltInt D a b (by omega) (by omega)
      have hL := HL.out _ hI.1 hI.2
      exact ⟨rfl, _, hL.1, hL.2, HS.out.trans H1.out hI.1.1⟩
    have h12I : ¬ (b : Int) - (a : Int) ≤ 12 := by omega
    by_cases hl0' : l = 0
    · subst hl0'
      go_wp2_with (go_at_call 99; refine (heap_n hDn (HS.out.holds hH hk (by omega)) (Nat.lt_of_lt_of_le hk HS.out.size) (by omega) (by omega) hz).mono ?_; rintro e w' ⟨rfl, h1⟩; have H1 : Hid (SR blk off wr (heapSort ltInt D a b) w') := h1; clear h1)
      (try simp only [Exit.inBlock, Exit.then])
      refine bodyPost_ret (results_none rfl _ _ _) rfl ?_
      have hI := heapSort_holds (lt := ltInt) swo_ltInt D a b (by omega) (by omega)
      have hL := HL.out _ hI.1 hI.2
      exact ⟨rfl, _, hL.1, hL.2, HS.out.trans H1.out hI.1.1⟩
    have hl0I : ¬ (l : Int) = 0 := by omega
    go_upto_if 35 with fail
    go_cut [3] from 19 to 133 (fun v W => ∃ (l1 : Nat) (D1 : Array Int), v = .int .i64 l1 ∧ l1 < 2305843009213693952 ∧ D1.size = n ∧ Hid (SR blk off w D1 W) ∧ Hid (PermIn a b D D1))
    case first =>
      cases wb with
      | true =>
        go_wp2_with fail
        go_meet
        case rel => exact ⟨l, D, rfl, hr.2.2.2, hDn, HS, permIn_refl _ _ _⟩
      | false =>
        go_wp2_with (go_at_call 100; refine (break_at hDn (HS.out.holds hH hk (by omega)) (Nat.lt_of_lt_of_le hk HS.out.size) (by omega) (by omega) hz).mono ?_; rintro e w' ⟨rfl, h1⟩; have H1 : Hid (SR blk off wr (breakPatterns D a b) w') := h1; clear h1)
        go_meet
        case rel =>
          have hp := breakPatterns_holds D a b (by omega) (by omega)
          exact ⟨l - 1, breakPatterns D a b, by congr 1; omega, by omega, by rw [hp.1]; exact hDn, HS.out.trans H1.out hp.1, hp⟩
    case rest =>
      obtain ⟨l1, D1, rfl, hl1, hD1n, HS1, HP1⟩ := hcut
      have hpv := choosePivot_holds ltInt D1 a b (by omega)
      obtain ⟨p, hp⟩ : ∃ p, p = (choosePivot ltInt D1 a b).1 := ⟨_, rfl⟩
      obtain ⟨h, hh⟩ : ∃ h, h = hintN (choosePivot ltInt D1 a b).2 := ⟨_, rfl⟩
      have HC : Hid (Calls Tryz.prog 101 #[.slice (some ⟨blk, off, none⟩) n cap, .int .i64 a, .int .i64 b] wc fun e w' => e = .returned (.tuple #[.int .i64 (p : Nat), .int .i64 h]) ∧ RowKit.Below wc.heap.size wc w') := by
        rw [hp, hh]; exact pivot_at hD1n (HS1.out.holds hH hk (by omega)) (Nat.lt_of_lt_of_le hk HS1.out.size) (by omega) (by omega) hz
      rw [← hp] at hpv
      clear hp hh
      go_upto_if 50 with (go_at_call 101; refine HC.out.mono ?_; rintro e w' ⟨rfl, h1⟩; have H1 : Hid (SR blk off w D1 w') := HS1.out.new (h1.mono HS1.out.size); clear h1)
      clear HC HS1
      go_cut [11, 12] from 19 to 133 (fun v v2 W => ∃ (p2 : Nat) (h2 : Int) (D2 : Array Int), v = .int .i64 p2 ∧ v2 = .int .i64 h2 ∧ (a ≤ p2 ∧ p2 < b) ∧ D2.size = n ∧ Hid (SR blk off w D2 W) ∧ Hid (PermIn a b D D2))
      case first =>
        by_cases hd2 : h = 2
        · subst hd2
          go_wp2_with (go_at_call 102; refine (reverse_at hD1n (H1.out.holds hH hk (by omega)) (Nat.lt_of_lt_of_le hk H1.out.size) (by omega) (by omega) hz).mono ?_; rintro e w'' ⟨rfl, h1⟩; have H2 : Hid (SR blk off w' (reverseRange D1 a b) w'') := h1; clear h1)
          go_meet
          case rel =>
            have hp := reverseRange_holds D1 a b (by omega) (by omega)
            exact ⟨(b - 1) - (p - a), 1, reverseRange D1 a b, by congr 1; omega, rfl, by omega, by rw [hp.1]; exact hD1n, H1.out.trans H2.out hp.1, permIn_trans _ _ _ a b HP1.out hp⟩
        · go_wp2_with fail
          go_meet
          case rel => exact ⟨p, h, D1, rfl, rfl, hpv, hD1n, H1, HP1⟩
      case rest =>
        obtain ⟨p2, h2, D2, rfl, rfl, hp2, hD2n, HS2, HP2⟩ := hcut
        clear HP1 H1 hpv
        have HB2 : Hid (Sort.Below ltInt a b D2) := HB.out.perm (by omega) HP2.out
        have HL2 : Hid (Leads a b D2 a0 b0 d) := HL.out.perm HP2.out
        clear HB HL HP2 HS
        go_upto_region 15 with fail
        go_cut [68] from 19 to 133 (fun v W => ∃ B : Bool, v = .bool B ∧ Hid (SR blk off w D2 W))
        case first =>
          cases wb with
          | false =>
            go_wp2_with fail
            go_meet
            case rel => exact ⟨_, rfl, HS2⟩
          | true =>
            cases wp with
            | false =>
              go_wp2_with fail
              go_meet
              case rel => exact ⟨_, rfl, HS2⟩
            | true =>
              go_wp2_with fail
              go_meet
              case rel => exact ⟨_, rfl, HS2⟩
        case rest =>
          obtain ⟨B, rfl, HS3⟩ := hcut
          clear HS2
          go_upto_if 68 with fail
          go_cut [] from 19 to 133 (fun W => ∃ (D3 : Array Int), D3.size = n ∧ Hid (SR blk off w D3 W) ∧ Hid (PermIn a b D2 D3))
          case first =>
            cases B with
            | false =>
              go_wp2_with fail
              go_meet
              case rel => exact ⟨D2, hD2n, HS3, permIn_refl _ _ _⟩
            | true =>
              have hpi := partialInsertionSort_holds (lt := ltInt) swo_ltInt D2 a b (by omega) (by omega) HB2.out
              have HPI : Hid (PermIn a b D2 (partialInsertionSort ltInt D2 a b).1 ∧ ((partialInsertionSort ltInt D2 a b).2 = true → SortedIn ltInt a b (partialInsertionSort ltInt D2 a b).1)) := hpi
              have HC := @pins_at blk off cap n a b D2 wc hD2n (HS3.out.holds hH hk (by omega)) (Nat.lt_of_lt_of_le hk HS3.out.size) (by omega) (by omega) hz
              have HC : Hid (Calls _ _ _ _ _) := HC
              clear hpi
              generalize partialInsertionSort ltInt D2 a b = PI at HPI HC
              obtain ⟨D3, B3⟩ := PI
              simp only at HPI HC
              cases B3 with
              | true =>
                go_wp2_with (go_at_call 103; refine HC.out.mono ?_; rintro e w3 ⟨rfl, h1⟩; have H3 : Hid (SR blk off wc D3 w3) := h1; clear h1)
                (try simp only [Exit.inBlock, Exit.then])
                refine bodyPost_ret (results_none rfl _ _ _) rfl ?_
                have hL := HL2.out _ HPI.out.1 (HPI.out.2 trivial)
                exact ⟨rfl, _, hL.1, hL.2, HS3.out.trans H3.out HPI.out.1.1⟩
              | false =>
                go_wp2_with (go_at_call 103; refine HC.out.mono ?_; rintro e w3 ⟨rfl, h1⟩; have H3 : Hid (SR blk off wc D3 w3) := h1; clear h1)
                go_meet
                case rel => exact ⟨D3, by rw [HPI.out.1.1]; exact hD2n, HS3.out.trans H3.out HPI.out.1.1, HPI.out.1⟩
          case rest =>
            obtain ⟨D3, hD3n, HS4, HP4⟩ := hcut
            clear HS3
            have HB3 : Hid (Sort.Below ltInt a b D3) := HB2.out.perm (by omega) HP4.out
            have HL3 : Hid (Leads a b D3 a0 b0 d) := HL2.out.perm HP4.out
            clear HB2 HL2 HP4
            obtain ⟨G, HG⟩ : ∃ G : Nat → Int, Hid (∀ t, G t = D3[t]!) := ⟨fun t => D3[t]!, fun _ => rfl⟩
            have hcw : ∀ t, t < n → wc.cell? ⟨blk, off + t, none⟩ = some (.int .u64 (G t)) := fun t ht => by rw [HG.out]; exact HS4.out.cell hH hk (by omega) t (by omega)
            have hfw : ∀ t, t < n → wc.frozen? ⟨blk, off + t, none⟩ = false := fun t ht => HS4.out.frz hH hk t (by omega)
            go_upto_region 17 with fail
            go_cut [87] from 19 to 133 (fun v W => ∃ B : Bool, v = .bool B ∧ Hid (SR blk off w D3 W) ∧ Hid (B = true → 0 < a ∧ ltInt D3[a - 1]! D3[p2]! = false))
            case first =>
              by_cases ha0 : 0 < a
              · have ha0I : decide (0 < (a : Int)) = true := decide_eq_true (by omega)
                have ha0J : 0 < (a : Int) := by omega
                have han : a - 1 < n := by omega
                go_quiet (first | (go_at_call 104; refine Calls.quiet_of_same (less_is _ _ _)))
                go_wp2_with fail
                go_meet
                case rel =>
                  exact ⟨_, rfl, HS4.out.draws nq, fun h => ⟨ha0, by rw [← HG.out, ← HG.out]; simpa using h⟩⟩
              · have ha0I : decide (0 < (a : Int)) = false := decide_eq_false (by omega)
                go_quiet (first | (go_at_call 104; refine Calls.quiet_of_same (less_is _ _ _)))
                go_wp2_with fail
                go_meet
                case rel => exact ⟨false, rfl, HS4.out.draws nq, fun h => by cases h⟩
            case rest =>
              obtain ⟨B5, rfl, HS5, HQ5⟩ := hcut
              clear hcw hfw HS4
              have HH5 : Hid (Holds uE wc blk off D3) := HS5.out.holds hH hk (by omega)
              have HK5 : Hid (blk < wc.heap.size) := Nat.lt_of_lt_of_le hk HS5.out.size
              cases B5 with
              | true =>
                obtain ⟨ha0, hnl⟩ := HQ5.out rfl
                have HC := @parteq_at blk off cap n a b p2 D3 wc hD3n HH5.out HK5.out hp2.1 hp2.2 (by omega) hz
                have HC : Hid (Calls _ _ _ _ _) := HC
                have hre := fun mid d4 => @round_eq Int _ ltInt swo_ltInt (partitionEqual_holds _) D3 d4 a b p2 mid ha0 hp2.1 hp2.2 (by omega) HB3.out hnl
                have HRE : Hid (∀ mid d4, partitionEqual ltInt D3 a b p2 = (mid, d4) → a < mid ∧ mid ≤ b ∧ d4.size = D3.size ∧ Sort.Below ltInt mid b d4 ∧ Leads mid b d4 a b D3) := fun mid d4 e => hre mid d4 e
                clear hre hnl
                generalize partitionEqual ltInt D3 a b p2 = PE at HRE HC
                obtain ⟨mid, D6⟩ := PE
                simp only at HC
                have hR := HRE.out mid D6 rfl
                have hmid : a < mid ∧ mid ≤ b := ⟨hR.1, hR.2.1⟩
                have hD6n : D6.size = n := by rw [hR.2.2.1]; exact hD3n
                have HR2 : Hid (Sort.Below ltInt mid b D6 ∧ Leads mid b D6 a0 b0 d) := ⟨hR.2.2.2.1, fun R h1 h2 => by have := hR.2.2.2.2 R h1 h2; exact HL3.out R this.1 this.2⟩
                clear hR HRE
                go_wp2_with (go_at_call 105; refine HC.out.mono ?_; rintro e w6 ⟨rfl, h1⟩; have H6 : Hid (SR blk off w D6 w6) := HS5.out.trans h1 (by omega); clear h1)
                go_roundw
                case rel => exact ⟨mid, b, l1, wb, wp, D6, rfl, rfl, rfl, rfl, rfl, by omega, hD6n, H6, HR2.out.1, HR2.out.2⟩
                case measure => simp [intV]; omega
              | false =>
                have HC := @part_at blk off cap n a b p2 D3 wc hD3n HH5.out HK5.out hp2.1 hp2.2 (by omega) hz
                have HC : Hid (Calls _ _ _ _ _) := HC
                have hre := fun mid ap d4 => @round_part Int _ ltInt swo_ltInt (partition_holds _) D3 d4 a b p2 mid ap hp2.1 hp2.2 (by omega) HB3.out
                have HRE : Hid (∀ mid ap d4, partition ltInt D3 a b p2 = (mid, ap, d4) → a ≤ mid ∧ mid < b ∧ d4.size = D3.size ∧ Sort.Below ltInt a mid d4 ∧ Sort.Below ltInt (mid + 1) b d4 ∧
                    (∀ L, PermIn a mid d4 L → SortedIn ltInt a mid L → Sort.Below ltInt (mid + 1) b L ∧ Leads (mid + 1) b L a b D3) ∧
                    (∀ L, PermIn (mid + 1) b d4 L → SortedIn ltInt (mid + 1) b L → Sort.Below ltInt a mid L ∧ Leads a mid L a b D3)) := fun mid ap d4 e => hre mid ap d4 e
                clear hre
                generalize partition ltInt D3 a b p2 = PE at HRE HC
                obtain ⟨mid, ap, D6⟩ := PE
                simp only at HC
                have hR := HRE.out mid ap D6 rfl
                have hmid : a ≤ mid ∧ mid < b := ⟨hR.1, hR.2.1⟩
                have hD6n : D6.size = n := by rw [hR.2.2.1]; exact hD3n
                have HR2 : Hid (Sort.Below ltInt a mid D6 ∧ Sort.Below ltInt (mid + 1) b D6 ∧ (∀ L, PermIn a mid D6 L → SortedIn ltInt a mid L → Sort.Below ltInt (mid + 1) b L ∧ Leads (mid + 1) b L a0 b0 d) ∧
                    (∀ L, PermIn (mid + 1) b D6 L → SortedIn ltInt (mid + 1) b L → Sort.Below ltInt a mid L ∧ Leads a mid L a0 b0 d)) :=
                  ⟨hR.2.2.2.1, hR.2.2.2.2.1, fun L h1 h2 => ⟨(hR.2.2.2.2.2.1 L h1 h2).1, fun R h3 h4 => by have := (hR.2.2.2.2.2.1 L h1 h2).2 R h3 h4; exact HL3.out R this.1 this.2⟩,
                    fun L h1 h2 => ⟨(hR.2.2.2.2.2.2 L h1 h2).1, fun R h3 h4 => by have := (hR.2.2.2.2.2.2 L h1 h2).2 R h3 h4; exact HL3.out R this.1 this.2⟩⟩
                clear hR HRE
                by_cases hlr : mid - a < b - mid
                · have hlrI : (mid : Int) - (a : Int) < (b : Int) - (mid : Int) := by omega
                  go_wp2_with (first
                    | (go_at_call 106; refine HC.out.mono ?_; rintro e w6 ⟨rfl, h1⟩; have H6 : Hid (SR blk off w D6 w6) := HS5.out.trans h1 (by omega); clear h1)
                    | (go_at_call 81; refine (IH.out (mid - a) (by omega) (Nat.le_refl _) hD6n (H6.out.holds hH hk (by omega)) (Nat.lt_of_lt_of_le hk H6.out.size) (by omega) (by omega) hl1 HR2.out.1).mono ?_; rintro e w7 ⟨rfl, h1⟩; have H7 : Hid (Sorts blk off a mid w6 D6 w7) := h1; clear h1))
                  go_roundw
                  case rel =>
                    obtain ⟨R, h1, h2, h3⟩ := H7.out
                    exact ⟨mid + 1, b, l1, _, ap, R, rfl, rfl, rfl, rfl, rfl, by omega, by rw [h1.1]; exact hD6n, H6.out.trans h3 h1.1, (HR2.out.2.2.1 R h1 h2).1, (HR2.out.2.2.1 R h1 h2).2⟩
                  case measure => simp [intV]; omega
                · have hlrI : ¬ (mid : Int) - (a : Int) < (b : Int) - (mid : Int) := by omega
                  go_wp2_with (first
                    | (go_at_call 106; refine HC.out.mono ?_; rintro e w6 ⟨rfl, h1⟩; have H6 : Hid (SR blk off w D6 w6) := HS5.out.trans h1 (by omega); clear h1)
                    | (go_at_call 81; rw [show (mid : Int) + 1 = ((mid + 1 : Nat) : Int) by omega]; refine (IH.out (b - (mid + 1)) (by omega) (Nat.le_refl _) hD6n (H6.out.holds hH hk (by omega)) (Nat.lt_of_lt_of_le hk H6.out.size) (by omega) (by omega) hl1 HR2.out.2.1).mono ?_; rintro e w7 ⟨rfl, h1⟩; have H7 : Hid (Sorts blk off (mid + 1) b w6 D6 w7) := h1; clear h1))
                  go_roundw
                  case rel =>
                    obtain ⟨R, h1, h2, h3⟩ := H7.out
                    exact ⟨a, mid, l1, _, ap, R, rfl, rfl, rfl, rfl, rfl, by omega, by rw [h1.1]; exact hD6n, H6.out.trans h3 h1.1, (HR2.out.2.2.2 R h1 h2).1, (HR2.out.2.2.2 R h1 h2).2⟩
                  case measure => simp [intV]; omega
end Go.Proofs.YtkgjmejpbklabaaGreat
namespace Go.Proofs.YtkgjmejpbklabaaGreat
open Go.RowKit
open Go.Sort
theorem len_is (n : Nat) (hn : n < 2305843009213693952) (w : World) : Calls Tryz.prog 82 #[.int .u64 (n : Int)] w fun e w' => (∃ l : Nat, e = .returned (.int .i64 (l : Int)) ∧ l < 2305843009213693952) ∧ w' = w := by
  refine (calls_of_every_depth fun D => AnyS.bits_LenIn { B.lays189 with } D (n : Int) w (by omega) (by omega)).mono ?_
  rintro e w' ⟨rfl, h2⟩
  refine ⟨⟨_, rfl, ?_⟩, h2⟩
  rw [Int.toNat_natCast, bitLen_eq _ (by omega)]
  have : bitsLen n ≤ 62 := (bitsLen_le_iff n 62).2 (by omega)
  omega
/-- sorted, and the same numbers -/
theorem sorted_list {d R : Array Int} {n : Nat} (hd : d.size = n) (h1 : PermIn 0 n d R) (h2 : SortedIn ltInt 0 n R) : R.toList.Perm d.toList ∧ R.toList.Pairwise (· ≤ ·) := by
  have hR : R.size = n := by rw [h1.1]; exact hd
  constructor
  · have := h1.2.2
    have e1 : (R.extract 0 n).toList = R.toList := by rw [← hR]; simp
    have e2 : (d.extract 0 n).toList = d.toList := by rw [← hd]; simp
    rw [e1, e2] at this
    exact this
  · rw [List.pairwise_iff_getElem]
    intro i j hi hj hij
    have hi' : i < R.size := by simpa using hi
    have hj' : j < R.size := by simpa using hj
    have := h2 i j (Nat.zero_le _) hij (by omega)
    rw [getElem!_pos R i hi', getElem!_pos R j hj'] at this
    simp only [ltInt, decide_eq_false_iff_not, Int.not_lt] at this
    simpa using this
set_option maxHeartbeats 2000000 in
set_option maxRecDepth 100000 in
theorem sort_at {blk off cap n : Nat} {d : Array Int} {w : World} (hN : d.size = n) (hH : Holds uE w blk off d) (hk : blk < w.heap.size) (hz : n < 2305843009213693952) :
    Calls Tryz.prog 48 #[.slice (some ⟨blk, off, none⟩) n cap] w fun e w' => e = .returned (.tuple #[]) ∧ ∃ R, R.toList.Perm d.toList ∧ R.toList.Pairwise (· ≤ ·) ∧ SR blk off w R w' := by
  have HP : Hid (∀ l : Nat, l < 2305843009213693952 → Calls Tryz.prog 81 #[.slice (some ⟨blk, off, none⟩) n cap, .int .i64 ((0 : Nat) : Int), .int .i64 n, .int .i64 l] w fun e w' => e = .returned (.tuple #[]) ∧ Sorts blk off 0 n w d w') :=
    fun l hl => pdq_at n (by omega) hN hH hk (by omega) (Nat.le_refl _) hz hl (.inl rfl)
  go_enter Tryz.func48, Tryz.ntmps48
  go_wp2_with fail
  refine (len_is n hz _).mono ?_
  rintro e w1 ⟨⟨l, rfl, hl⟩, hw⟩
  have hw2 := hw.symm
  clear hw
  subst hw2
  go_wp2_with fail
  refine (HP.out l hl).mono ?_
  rintro e w2 ⟨rfl, h1⟩
  have H1 : Hid (Sorts blk off 0 n w d w2) := h1
  clear h1
  go_wp2_with fail
  go_end0
  obtain ⟨R, h1, h2, h3⟩ := H1.out
  have := sorted_list hN h1 h2
  exact ⟨rfl, R, this.1, this.2, h3⟩

/-! ### slices.Compact -/
def cpRen : Shelf.Ren := ⟨fun | 43 => 49 | x => x, fun | 0 => 0 | 3 => 3 | 4 => 4 | 22 => 37 | 23 => 44 | x => x, fun x => x⟩
theorem cpLays : SlLaysE.n43 Tryz.prog cpRen := {
  mixed := by kernel_rfl
  f43 := ⟨Tryz.f49.name, by kernel_rfl, Tryz.func49.trans (congrArg some (by kernel_rfl))⟩
  t0 := Tryz.underlying0
  a0 := Tryz.isAgg0
  z0 := Tryz.sizeOf0
  v0 := Tryz.zeroValue0
  t3 := Tryz.underlying3
  a3 := Tryz.isAgg3
  z3 := Tryz.sizeOf3
  v3 := Tryz.zeroValue3
  t4 := Tryz.underlying4
  a4 := Tryz.isAgg4
  z4 := Tryz.sizeOf4
  v4 := Tryz.zeroValue4
  t22 := Tryz.underlying37
  a22 := Tryz.isAgg37
  z22 := Tryz.sizeOf37
  v22 := Tryz.zeroValue37
  a23 := Tryz.isAgg44
  z23 := Tryz.sizeOf44 }
theorem ahead_below (w : World) (b o q : Nat) (d : Array Int) : SR b o w d (putRow uE (Sort.ahead w q) b o d) := ⟨rfl, rfl, rfl, by simp, fun _ _ => rfl⟩
theorem compact_at {blk off cap n : Nat} {d : Array Int} {w : World} (hN : d.size = n) (hH : Holds uE w blk off d) (hz : n < 2305843009213693952) (hc : n ≤ cap) :
    Calls Tryz.prog 49 #[.slice (some ⟨blk, off, none⟩) n cap] w fun e w' => e = .returned (.slice (some ⟨blk, off, none⟩) (Lib.compactUpTo d d.size).length cap) ∧ SR blk off w (Lib.compactUpTo d d.size ++ List.replicate (d.size - (Lib.compactUpTo d d.size).length) 0).toArray w' := by
  subst hN
  refine (AnyE.slices_Compact cpLays (Value.int .u64) ?_ (EqlAt.intD _ _ _) (NeqAt.intD _ _ _) 0 ?_ blk off cap d w hH (by omega) hc).mono ?_
  · intro _; rfl
  · exact Tryz.zeroValue44
  · rintro e w' ⟨rfl, q, rfl⟩
    exact ⟨rfl, ahead_below _ _ _ _ _⟩
end Go.Proofs.YtkgjmejpbklabaaGreat
