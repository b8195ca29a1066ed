/-
  Layer 15, the library's sort at []uint64: partitionEqual.
-/
import Derived.Test.YtkgjmejpbklabaaSg
namespace Go.Proofs.Ytkgjmejpbklabaa
open Go.RowKit

open Go.Sort

set_option maxHeartbeats 2000000 in
set_option maxRecDepth 100000 in
theorem parteq_at {blk off cap n a b pv : Nat} {d : Array Int} {w : World} (hN : d.size = n) (hH : Holds uE w blk off d) (hk : blk < w.heap.size) (hap : a ≤ pv) (hpb : pv < b) (hb : b ≤ n) (hz : n < 2305843009213693952) :
    Calls Try.prog 56 #[.slice (some ⟨blk, off, none⟩) n cap, .int .i64 a, .int .i64 b, .int .i64 pv] w fun e w' => e = .returned (.int .i64 ((partitionEqual ltInt d a b pv).1 : Nat)) ∧ SR blk off w (partitionEqual ltInt d a b pv).2 w' := by
  obtain ⟨D, hD⟩ : ∃ D, D = swp d a pv := ⟨_, rfl⟩
  have hDn : D.size = n := by rw [hD, size_swp]; exact hN
  obtain ⟨G, HG⟩ : ∃ G : Nat → Int, Hid (∀ t, G t = d[t]!) := ⟨fun t => d[t]!, fun _ => rfl⟩
  have hcw : ∀ t, t < n → w.cell? ⟨blk, off + t, none⟩ = some (.int .u64 (G t)) := fun t ht => by rw [HG.out]; exact (hH t (by omega)).1
  have hfw : ∀ t, t < n → w.frozen? ⟨blk, off + t, none⟩ = false := fun t ht => (hH t (by omega)).2
  have hc2 := two_cell hcw a pv (by omega)
  have HW : Hid (SR blk off w D ((w.setCell ⟨blk, off + a, none⟩ (.int .u64 (G pv))).setCell ⟨blk, off + pv, none⟩ (.int .u64 (G a))).drew) := by rw [hD]; exact (SR.self hH).swapD HG.out a pv (by omega) (by omega)
  have HE : Hid (partitionEqual ltInt d a b pv = partEqLoop ltInt a (a + 1) (b - 1) D) := by
    show _ = _
    unfold partitionEqual
    rw [hD]
  generalize partitionEqual ltInt d a b pv = PT at HE ⊢
  clear hD
  go_enter Try.func56, Try.ntmps56
  go_wp2_with fail
  go_region
  generalize ((w.setCell ⟨blk, off + a, none⟩ (.int .u64 (G pv))).setCell ⟨blk, off + pv, none⟩ (.int .u64 (G a))).drew = W1 at HW ⊢
  clear hc2 hcw hfw HG
  go_wp2_with fail
  go_loopw [9, 10] (fun v v2 W => ∃ (i3 j3 : Nat) (D3 : Array Int), v = .int .i64 i3 ∧ v2 = .int .i64 j3 ∧ (a < i3 ∧ i3 ≤ j3 + 2 ∧ j3 < n) ∧ D3.size = n ∧ Hid (SR blk off w D3 W) ∧ Hid (partEqLoop ltInt a i3 j3 D3 = PT)) (fun v v2 _ => (intV v2 + 1 - intV v).toNat)
  case atStart => exact ⟨a + 1, b - 1, D, rfl, by congr 1; omega, by omega, hDn, HW, HE.out.symm⟩
  case round =>
    obtain ⟨i3, j3, D3, rfl, rfl, hij3, hD3n, HS3, HR3⟩ := hrel
    obtain ⟨I3, hI3⟩ : ∃ I, I = scanUp (fun x => !ltInt D3[a]! x) D3 j3 i3 := ⟨_, rfl⟩
    obtain ⟨J3, hJ3⟩ : ∃ J, J = scanDown (fun x => ltInt D3[a]! x) D3 I3 j3 := ⟨_, rfl⟩
    have HE3 : Hid (PT = if I3 > J3 then (I3, D3) else partEqLoop ltInt a (I3 + 1) (J3 - 1) (swp D3 I3 J3)) := by
      show _ = _
      rw [← HR3.out, partEqLoop_eq]
      simp only [← hI3, ← hJ3]
    have HI3 : Hid (I3 = scanUp (fun x => !ltInt D3[a]! x) D3 j3 i3) := hI3
    have HJ3 : Hid (J3 = scanDown (fun x => ltInt D3[a]! x) D3 I3 j3) := hJ3
    clear hI3 hJ3 HR3 HE
    go_upto_block 2 with fail
    go_cut [9] from 29 to 82 (fun v W => v = .int .i64 (I3 : Int) ∧ Hid (SR blk off w D3 W) ∧ Hid (i3 ≤ I3 ∧ I3 ≤ j3 + 2))
    case first =>
      go_wp2_with fail
      go_loopw [9] (fun v W => ∃ i : Nat, v = .int .i64 i ∧ (i3 ≤ i ∧ i ≤ j3 + 2) ∧ Hid (SR blk off w D3 W) ∧ Hid (scanUp (fun x => !ltInt D3[a]! x) D3 (j3) i = I3)) (fun v _ => n + 1 - (intV v).toNat)
      case atStart => exact ⟨i3, rfl, by omega, HS3, HI3.out.symm⟩
      case round =>
        obtain ⟨i, rfl, hi, HSu, HU⟩ := hrel
        obtain ⟨G, HG⟩ : ∃ G : Nat → Int, Hid (∀ t, G t = D3[t]!) := ⟨fun t => D3[t]!, fun _ => rfl⟩
        have hcw : ∀ t, t < n → wr.cell? ⟨blk, off + t, none⟩ = some (.int .u64 (G t)) := fun t ht => by rw [HG.out]; exact HSu.out.cell hH hk (by omega) t (by omega)
        have hfw : ∀ t, t < n → wr.frozen? ⟨blk, off + t, none⟩ = false := fun t ht => HSu.out.frz hH hk t (by omega)
        by_cases hij : i ≤ j3
        · have hd : decide ((i : Int) ≤ (j3 : Int)) = true := decide_eq_true (by omega)
          have hd2 : (i : Int) ≤ (j3 : Int) := by omega
          go_wp2_with fail
          go_quiet (first | (go_at_call 55; refine Calls.quiet_of_same (less_is _ _ _)))
          go_wp2_with fail
          all_goals first
            | (have hl : (!ltInt (G a) (G i)) = true := by assumption
               have HP : Hid ((fun x => !ltInt D3[a]! x) D3[i]! = true) := by show _ = _; simp only [← HG.out, hl]
               go_roundw
               case rel => exact ⟨i + 1, rfl, by omega, HSu.out.draws nq, by show _ = _; rw [← HU.out, ← up_go hij HP.out]⟩
               case measure => simp [intV]; omega)
            | (have hl : (!ltInt (G a) (G i)) = false := by assumption
               have HP : Hid (i ≤ j3 → (fun x => !ltInt D3[a]! x) D3[i]! = false) := fun _ => by simp only [← HG.out, hl]
               have HV : Hid (I3 = i) := by show _ = _; rw [← HU.out, up_end HP.out]
               go_meet
               case rel => exact ⟨by rw [HV.out], HSu.out.draws nq, by show _ ∧ _; rw [HV.out]; omega⟩)
        · have hd : decide ((i : Int) ≤ (j3 : Int)) = false := decide_eq_false (by omega)
          have HV : Hid (I3 = i) := by show _ = _; rw [← HU.out, up_end (fun h => absurd h hij)]
          go_wp2_with fail
          go_quiet (first | (go_at_call 55; refine Calls.quiet_of_same (less_is _ _ _)))
          go_wp2_with fail
          go_meet
          case rel => exact ⟨by rw [HV.out], HSu.out.draws nq, by show _ ∧ _; rw [HV.out]; omega⟩
    case rest =>
      obtain ⟨rfl, HS4, HB4⟩ := hcut
      have hI4 := HB4.out
      go_upto_block 4 with fail
      go_cut [10] from 29 to 82 (fun v W => v = .int .i64 (J3 : Int) ∧ Hid (SR blk off w D3 W) ∧ Hid (J3 ≤ j3 ∧ I3 ≤ J3 + 2))
      case first =>
        go_wp2_with fail
        go_loopw [10] (fun v W => ∃ j : Nat, v = .int .i64 j ∧ (j ≤ j3 ∧ I3 ≤ j + 2) ∧ Hid (SR blk off w D3 W) ∧ Hid (scanDown (fun x => ltInt D3[a]! x) D3 I3 j = J3)) (fun v _ => (intV v).toNat)
        case atStart => exact ⟨j3, rfl, by omega, HS4, HJ3.out.symm⟩
        case round =>
          obtain ⟨j, rfl, hj, HSu, HU⟩ := hrel
          obtain ⟨G, HG⟩ : ∃ G : Nat → Int, Hid (∀ t, G t = D3[t]!) := ⟨fun t => D3[t]!, fun _ => rfl⟩
          have hcw : ∀ t, t < n → wr.cell? ⟨blk, off + t, none⟩ = some (.int .u64 (G t)) := fun t ht => by rw [HG.out]; exact HSu.out.cell hH hk (by omega) t (by omega)
          have hfw : ∀ t, t < n → wr.frozen? ⟨blk, off + t, none⟩ = false := fun t ht => HSu.out.frz hH hk t (by omega)
          have hjn : j < n := by omega
          by_cases hij : I3 ≤ j
          · have hd : decide ((I3 : Int) ≤ (j : Int)) = true := decide_eq_true (by omega)
            have hd2 : (I3 : Int) ≤ (j : Int) := by omega
            go_wp2_with fail
            go_quiet (first | (go_at_call 55; refine Calls.quiet_of_same (less_is _ _ _)))
            go_wp2_with fail
            all_goals first
              | (have hl : ltInt (G a) (G j) = true := by assumption
                 have HP : Hid ((fun x => ltInt D3[a]! x) D3[j]! = true) := by show _ = _; simp only [← HG.out, hl]
                 go_roundw
                 case rel => exact ⟨j - 1, by congr 1; omega, by omega, HSu.out.draws nq, by show _ = _; rw [← HU.out, ← dn_go (by omega) hij HP.out]⟩
                 case measure => simp [intV]; omega)
              | (have hl : ltInt (G a) (G j) = false := by assumption
                 have HP : Hid (I3 ≤ j → (fun x => ltInt D3[a]! x) D3[j]! = false) := fun _ => by simp only [← HG.out, hl]
                 have HV : Hid (J3 = j) := by show _ = _; rw [← HU.out, dn_end HP.out]
                 go_meet
                 case rel => exact ⟨by rw [HV.out], HSu.out.draws nq, by show _ ∧ _; rw [HV.out]; omega⟩)
          · have hd : decide ((I3 : Int) ≤ (j : Int)) = false := decide_eq_false (by omega)
            have HV : Hid (J3 = j) := by show _ = _; rw [← HU.out, dn_end (fun h => absurd h hij)]
            go_wp2_with fail
            go_quiet (first | (go_at_call 55; refine Calls.quiet_of_same (less_is _ _ _)))
            go_wp2_with fail
            go_meet
            case rel => exact ⟨by rw [HV.out], HSu.out.draws nq, by show _ ∧ _; rw [HV.out]; omega⟩
      case rest =>
        obtain ⟨rfl, HS5, HB5⟩ := hcut
        have hJ4 := HB5.out
        have hJ3n : J3 < n := by omega
        have hI3n : I3 ≤ n + 1 := by omega
        obtain ⟨G5, HG5⟩ : ∃ G : Nat → Int, Hid (∀ t, G t = D3[t]!) := ⟨fun t => D3[t]!, fun _ => rfl⟩
        have hcw : ∀ t, t < n → wc.cell? ⟨blk, off + t, none⟩ = some (.int .u64 (G5 t)) := fun t ht => by rw [HG5.out]; exact HS5.out.cell hH hk (by omega) t (by omega)
        have hfw : ∀ t, t < n → wc.frozen? ⟨blk, off + t, none⟩ = false := fun t ht => HS5.out.frz hH hk t (by omega)
        by_cases hIJ3 : I3 > J3
        · have HE5 : Hid (PT = (I3, D3)) := by show _ = _; rw [HE3.out, if_pos hIJ3]
          go_wp2_with fail
          go_ret
          rw [HE5.out]
          exact ⟨rfl, HS5.out⟩
        · have hc2 := two_cell hcw I3 J3 (by omega)
          have HW5 : Hid (SR blk off w (swp D3 I3 J3) ((wc.setCell ⟨blk, off + I3, none⟩ (.int .u64 (G5 J3))).setCell ⟨blk, off + J3, none⟩ (.int .u64 (G5 I3))).drew) := HS5.out.swapD HG5.out I3 J3 (by omega) (by omega)
          have HE5 : Hid (partEqLoop ltInt a (I3 + 1) (J3 - 1) (swp D3 I3 J3) = PT) := by show _ = _; rw [HE3.out, if_neg hIJ3]
          go_wp2_with fail
          go_region
          go_wp2_with fail
          go_roundw
          case rel => exact ⟨I3 + 1, J3 - 1, swp D3 I3 J3, rfl, by congr 1; omega, by omega, by rw [size_swp]; exact hD3n, HW5, HE5⟩
          case measure => simp [intV]; omega
end Go.Proofs.Ytkgjmejpbklabaa
