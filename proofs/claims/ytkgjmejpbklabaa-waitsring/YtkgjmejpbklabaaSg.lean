/-
  Layer 15, the library's sort at []uint64: partition.
-/
import Derived.Test.YtkgjmejpbklabaaSa
import Derived.BigRegion
import Derived.Deep.CutBlock
namespace Go.Proofs.Ytkgjmejpbklabaa
open Go.RowKit

open Go.Sort

/-- what the second of two stores finds -/
theorem two_cell {b o n : Nat} {W : World} {G : Nat → Int} (hc : ∀ t, t < n → W.cell? ⟨b, o + t, none⟩ = some (.int .u64 (G t))) (i j : Nat) (hj : j < n) :
    (W.setCell ⟨b, o + i, none⟩ (.int .u64 (G j))).cell? ⟨b, o + j, none⟩ = some (.int .u64 (G j)) := by
  by_cases h : i = j
  · subst h
    exact World.cell?_setCell_same _ _ _ (hc i hj)
  · rw [World.cell?_setCell_other]
    · exact hc j hj
    · intro e
      injection e with e1 e2
      omega
theorem up_go {p : Int → Bool} {d : Array Int} {i j : Nat} (h : i ≤ j) (hp : p d[i]! = true) : scanUp p d j i = scanUp p d j (i + 1) := by rw [scanUp, if_pos (by simp [h, hp])]
theorem up_end {p : Int → Bool} {d : Array Int} {i j : Nat} (h : i ≤ j → p d[i]! = false) : scanUp p d j i = i := by
  rw [scanUp, if_neg]
  intro hc
  simp only [Bool.and_eq_true, decide_eq_true_eq] at hc
  rw [h hc.1] at hc; simp at hc
theorem dn_go {p : Int → Bool} {d : Array Int} {i j : Nat} (h0 : 0 < j) (h : i ≤ j) (hp : p d[j]! = true) : scanDown p d i j = scanDown p d i (j - 1) := by
  cases j with
  | zero => omega
  | succ j => simp only [scanDown, Nat.add_sub_cancel]; rw [if_pos (by simp [h, hp])]
theorem dn_end {p : Int → Bool} {d : Array Int} {i j : Nat} (h : i ≤ j → p d[j]! = false) : scanDown p d i j = j := by
  cases j with
  | zero => rfl
  | succ j =>
    simp only [scanDown]
    rw [if_neg]
    intro hc
    simp only [Bool.and_eq_true, decide_eq_true_eq] at hc
    rw [h hc.1] at hc; simp at hc

set_option maxHeartbeats 2000000 in
set_option maxRecDepth 100000 in
theorem part_at {blk off cap n a b pv : Nat} {d : Array Int} {w : World} (hN : d.size = n) (hH : Holds uE w blk off d) (hk : blk < w.heap.size) (hap : a ≤ pv) (hpb : pv < b) (hb : b ≤ n) (hz : n < 2305843009213693952) :
    Calls Try.prog 57 #[.slice (some ⟨blk, off, none⟩) n cap, .int .i64 a, .int .i64 b, .int .i64 pv] w fun e w' => e = .returned (.tuple #[.int .i64 ((partition ltInt d a b pv).1 : Nat), .bool (partition ltInt d a b pv).2.1]) ∧ SR blk off w (partition ltInt d a b pv).2.2 w' := by
  obtain ⟨D, hD⟩ : ∃ D, D = swp d a pv := ⟨_, rfl⟩
  have hDn : D.size = n := by rw [hD, size_swp]; exact hN
  obtain ⟨G, HG⟩ : ∃ G : Nat → Int, Hid (∀ t, G t = d[t]!) := ⟨fun t => d[t]!, fun _ => rfl⟩
  have hcw : ∀ t, t < n → w.cell? ⟨blk, off + t, none⟩ = some (.int .u64 (G t)) := fun t ht => by rw [HG.out]; exact (hH t (by omega)).1
  have hfw : ∀ t, t < n → w.frozen? ⟨blk, off + t, none⟩ = false := fun t ht => (hH t (by omega)).2
  have hc2 := two_cell hcw a pv (by omega)
  have HW : Hid (SR blk off w D ((w.setCell ⟨blk, off + a, none⟩ (.int .u64 (G pv))).setCell ⟨blk, off + pv, none⟩ (.int .u64 (G a))).drew) := by rw [hD]; exact (SR.self hH).swapD HG.out a pv (by omega) (by omega)
  obtain ⟨I, hI⟩ : ∃ I, I = scanUp (fun x => ltInt x D[a]!) D (b - 1) (a + 1) := ⟨_, rfl⟩
  obtain ⟨J, hJ⟩ : ∃ J, J = scanDown (fun x => !ltInt x D[a]!) D I (b - 1) := ⟨_, rfl⟩
  have HE : Hid (partition ltInt d a b pv = if I > J then (J, true, swp D J a) else ((partLoop ltInt a (I + 1) (J - 1) (swp D I J)).1, false, swp (partLoop ltInt a (I + 1) (J - 1) (swp D I J)).2 (partLoop ltInt a (I + 1) (J - 1) (swp D I J)).1 a)) := by
    show _ = _
    unfold partition
    simp only [← hD, ← hI, ← hJ]
  generalize partition ltInt d a b pv = PT at HE ⊢
  have HI : Hid (I = scanUp (fun x => ltInt x D[a]!) D (b - 1) (a + 1)) := hI
  have HJ : Hid (J = scanDown (fun x => !ltInt x D[a]!) D I (b - 1)) := hJ
  clear hI hJ hD
  go_enter Try.func57, Try.ntmps57
  go_wp2_with fail
  go_region
  generalize ((w.setCell ⟨blk, off + a, none⟩ (.int .u64 (G pv))).setCell ⟨blk, off + pv, none⟩ (.int .u64 (G a))).drew = W1 at HW ⊢
  clear hc2 hcw hfw HG
  go_upto_block 0 with fail
  go_cut [10] from 30 to 45 (fun v W => v = .int .i64 (I : Int) ∧ Hid (SR blk off w D W) ∧ Hid ((a + 1) ≤ I ∧ I ≤ (b - 1) + 2))
  case first =>
    go_wp2_with fail
    go_loopw [10] (fun v W => ∃ i : Nat, v = .int .i64 i ∧ ((a + 1) ≤ i ∧ i ≤ (b - 1) + 2) ∧ Hid (SR blk off w D W) ∧ Hid (scanUp (fun x => ltInt x D[a]!) D ((b - 1)) i = I)) (fun v _ => n + 1 - (intV v).toNat)
    case atStart => exact ⟨(a + 1), by go_num, by omega, HW, HI.out.symm⟩
    case round =>
      obtain ⟨i, rfl, hi, HSu, HU⟩ := hrel
      obtain ⟨G, HG⟩ : ∃ G : Nat → Int, Hid (∀ t, G t = D[t]!) := ⟨fun t => D[t]!, fun _ => rfl⟩
      have hcw : ∀ t, t < n → wr.cell? ⟨blk, off + t, none⟩ = some (.int .u64 (G t)) := fun t ht => by rw [HG.out]; exact HSu.out.cell hH hk (by omega) t (by omega)
      have hfw : ∀ t, t < n → wr.frozen? ⟨blk, off + t, none⟩ = false := fun t ht => HSu.out.frz hH hk t (by omega)
      by_cases hij : i ≤ (b - 1)
      · have hd : decide ((i : Int) ≤ ((b : Int) - 1)) = true := decide_eq_true (by omega)
        have hd2 : (i : Int) ≤ ((b : Int) - 1) := by omega
        go_wp2_with fail
        go_quiet (first | (go_at_call 55; refine Calls.quiet_of_same (less_is _ _ _)))
        go_wp2_with fail
        all_goals first
          | (have hl : ltInt (G i) (G a) = true := by assumption
             have HP : Hid ((fun x => ltInt x D[a]!) D[i]! = true) := by show _ = _; simp only [← HG.out, hl]
             go_roundw
             case rel => exact ⟨i + 1, rfl, by omega, HSu.out.draws nq, by show _ = _; rw [← HU.out, ← up_go hij HP.out]⟩
             case measure => simp [intV]; omega)
          | (have hl : ltInt (G i) (G a) = false := by assumption
             have HP : Hid (i ≤ (b - 1) → (fun x => ltInt x D[a]!) D[i]! = false) := fun _ => by simp only [← HG.out, hl]
             have HV : Hid (I = i) := by show _ = _; rw [← HU.out, up_end HP.out]
             go_meet
             case rel => exact ⟨by rw [HV.out], HSu.out.draws nq, by show _ ∧ _; rw [HV.out]; omega⟩)
      · have hd : decide ((i : Int) ≤ ((b : Int) - 1)) = false := decide_eq_false (by omega)
        have HV : Hid (I = i) := by show _ = _; rw [← HU.out, up_end (fun h => absurd h hij)]
        go_wp2_with fail
        go_quiet (first | (go_at_call 55; refine Calls.quiet_of_same (less_is _ _ _)))
        go_wp2_with fail
        go_meet
        case rel => exact ⟨by rw [HV.out], HSu.out.draws nq, by show _ ∧ _; rw [HV.out]; omega⟩
  case rest =>
    obtain ⟨rfl, HS1, HB1⟩ := hcut
    have hI1 := HB1.out
    rw [show ((b : Int) - 1) = ((b - 1 : Nat) : Int) by omega]
    go_upto_block 2 with fail
    go_cut [11] from 46 to 62 (fun v W => v = .int .i64 (J : Int) ∧ Hid (SR blk off w D W) ∧ Hid (J ≤ (b - 1) ∧ I ≤ J + 2))
    case first =>
      go_wp2_with fail
      go_loopw [11] (fun v W => ∃ j : Nat, v = .int .i64 j ∧ (j ≤ (b - 1) ∧ I ≤ j + 2) ∧ Hid (SR blk off w D W) ∧ Hid (scanDown (fun x => !ltInt x D[a]!) D I j = J)) (fun v _ => (intV v).toNat)
      case atStart => exact ⟨(b - 1), rfl, by omega, HS1, HJ.out.symm⟩
      case round =>
        obtain ⟨j, rfl, hj, HSu, HU⟩ := hrel
        obtain ⟨G, HG⟩ : ∃ G : Nat → Int, Hid (∀ t, G t = D[t]!) := ⟨fun t => D[t]!, fun _ => rfl⟩
        have hcw : ∀ t, t < n → wr.cell? ⟨blk, off + t, none⟩ = some (.int .u64 (G t)) := fun t ht => by rw [HG.out]; exact HSu.out.cell hH hk (by omega) t (by omega)
        have hfw : ∀ t, t < n → wr.frozen? ⟨blk, off + t, none⟩ = false := fun t ht => HSu.out.frz hH hk t (by omega)
        have hjn : j < n := by omega
        by_cases hij : I ≤ j
        · have hd : decide ((I : Int) ≤ (j : Int)) = true := decide_eq_true (by omega)
          have hd2 : (I : Int) ≤ (j : Int) := by omega
          go_wp2_with fail
          go_quiet (first | (go_at_call 55; refine Calls.quiet_of_same (less_is _ _ _)))
          go_wp2_with fail
          all_goals first
            | (have hl : (!ltInt (G j) (G a)) = true := by assumption
               have HP : Hid ((fun x => !ltInt x D[a]!) D[j]! = true) := by show _ = _; simp only [← HG.out, hl]
               go_roundw
               case rel => exact ⟨j - 1, by congr 1; omega, by omega, HSu.out.draws nq, by show _ = _; rw [← HU.out, ← dn_go (by omega) hij HP.out]⟩
               case measure => simp [intV]; omega)
            | (have hl : (!ltInt (G j) (G a)) = false := by assumption
               have HP : Hid (I ≤ j → (fun x => !ltInt x D[a]!) D[j]! = false) := fun _ => by simp only [← HG.out, hl]
               have HV : Hid (J = j) := by show _ = _; rw [← HU.out, dn_end HP.out]
               go_meet
               case rel => exact ⟨by rw [HV.out], HSu.out.draws nq, by show _ ∧ _; rw [HV.out]; omega⟩)
        · have hd : decide ((I : Int) ≤ (j : Int)) = false := decide_eq_false (by omega)
          have HV : Hid (J = j) := by show _ = _; rw [← HU.out, dn_end (fun h => absurd h hij)]
          go_wp2_with fail
          go_quiet (first | (go_at_call 55; refine Calls.quiet_of_same (less_is _ _ _)))
          go_wp2_with fail
          go_meet
          case rel => exact ⟨by rw [HV.out], HSu.out.draws nq, by show _ ∧ _; rw [HV.out]; omega⟩
    case rest =>
      obtain ⟨rfl, HS2, HB2⟩ := hcut
      have hJ1 := HB2.out
      have hJn : J < n := by omega
      have hIn : I ≤ n + 1 := by omega
      by_cases hIJ : I > J
      · have HE2 : Hid (PT = (J, true, swp D J a)) := by show _ = _; rw [HE.out, if_pos hIJ]
        obtain ⟨G2, HG2⟩ : ∃ G : Nat → Int, Hid (∀ t, G t = D[t]!) := ⟨fun t => D[t]!, fun _ => rfl⟩
        have hcw : ∀ t, t < n → wc.cell? ⟨blk, off + t, none⟩ = some (.int .u64 (G2 t)) := fun t ht => by rw [HG2.out]; exact HS2.out.cell hH hk (by omega) t (by omega)
        have hfw : ∀ t, t < n → wc.frozen? ⟨blk, off + t, none⟩ = false := fun t ht => HS2.out.frz hH hk t (by omega)
        have hc2 := two_cell hcw J a (by omega)
        have HW2 : Hid (SR blk off w (swp D J a) ((wc.setCell ⟨blk, off + J, none⟩ (.int .u64 (G2 a))).setCell ⟨blk, off + a, none⟩ (.int .u64 (G2 J))).drew) := HS2.out.swapD HG2.out J a (by omega) (by omega)
        clear HE HI HJ HS1 HB1 HB2
        go_wp2_with fail
        go_region
        go_wp2_with fail
        go_ret2
        rw [HE2.out]
        exact ⟨rfl, HW2.out⟩
      · obtain ⟨R, hR⟩ : ∃ R, R = partLoop ltInt a (I + 1) (J - 1) (swp D I J) := ⟨_, rfl⟩
        have HE2 : Hid (PT = (R.1, false, swp R.2 R.1 a)) := by show _ = _; rw [HE.out, if_neg hIJ, hR]
        obtain ⟨D2, hD2⟩ : ∃ D2, D2 = swp D I J := ⟨_, rfl⟩
        have hD2n : D2.size = n := by rw [hD2, size_swp]; exact hDn
        have HR : Hid (partLoop ltInt a (I + 1) (J - 1) D2 = R) := by show _ = _; rw [hR, hD2]
        obtain ⟨G2, HG2⟩ : ∃ G : Nat → Int, Hid (∀ t, G t = D[t]!) := ⟨fun t => D[t]!, fun _ => rfl⟩
        have hcw : ∀ t, t < n → wc.cell? ⟨blk, off + t, none⟩ = some (.int .u64 (G2 t)) := fun t ht => by rw [HG2.out]; exact HS2.out.cell hH hk (by omega) t (by omega)
        have hfw : ∀ t, t < n → wc.frozen? ⟨blk, off + t, none⟩ = false := fun t ht => HS2.out.frz hH hk t (by omega)
        have hc2 := two_cell hcw I J (by omega)
        have HW2 : Hid (SR blk off w D2 ((wc.setCell ⟨blk, off + I, none⟩ (.int .u64 (G2 J))).setCell ⟨blk, off + J, none⟩ (.int .u64 (G2 I))).drew) := by rw [hD2]; exact HS2.out.swapD HG2.out I J (by omega) (by omega)
        clear HE HI HJ HS1 HB1 HB2 hR hD2
        go_wp2_with fail
        go_region
        generalize ((wc.setCell ⟨blk, off + I, none⟩ (.int .u64 (G2 J))).setCell ⟨blk, off + J, none⟩ (.int .u64 (G2 I))).drew = W3 at HW2 ⊢
        clear hc2 hcw hfw HG2
        go_wp2_with fail
        go_loopw [10, 11] (fun v v2 W => ∃ (i3 j3 : Nat) (D3 : Array Int), v = .int .i64 i3 ∧ v2 = .int .i64 j3 ∧ (a < i3 ∧ i3 ≤ j3 + 2 ∧ j3 < n) ∧ D3.size = n ∧ Hid (SR blk off w D3 W) ∧ Hid (partLoop ltInt a i3 j3 D3 = R)) (fun v v2 _ => (intV v2 + 1 - intV v).toNat)
        case atStart => exact ⟨I + 1, J - 1, D2, rfl, by congr 1; omega, by omega, hD2n, HW2, HR⟩
        case round =>
          obtain ⟨i3, j3, D3, rfl, rfl, hij3, hD3n, HS3, HR3⟩ := hrel
          obtain ⟨I3, hI3⟩ : ∃ I, I = scanUp (fun x => ltInt x D3[a]!) D3 j3 i3 := ⟨_, rfl⟩
          obtain ⟨J3, hJ3⟩ : ∃ J, J = scanDown (fun x => !ltInt x D3[a]!) D3 I3 j3 := ⟨_, rfl⟩
          have HE3 : Hid (R = if I3 > J3 then (J3, D3) else partLoop ltInt a (I3 + 1) (J3 - 1) (swp D3 I3 J3)) := by
            show _ = _
            rw [← HR3.out, partLoop_eq]
            simp only [← hI3, ← hJ3]
          have HI3 : Hid (I3 = scanUp (fun x => ltInt x D3[a]!) D3 j3 i3) := hI3
          have HJ3 : Hid (J3 = scanDown (fun x => !ltInt x D3[a]!) D3 I3 j3) := hJ3
          clear hI3 hJ3 HR3 HR
          go_upto_block 6 with fail
          go_cut [10] from 99 to 152 (fun v W => v = .int .i64 (I3 : Int) ∧ Hid (SR blk off w D3 W) ∧ Hid (i3 ≤ I3 ∧ I3 ≤ j3 + 2))
          case first =>
            go_wp2_with fail
            go_loopw [10] (fun v W => ∃ i : Nat, v = .int .i64 i ∧ (i3 ≤ i ∧ i ≤ j3 + 2) ∧ Hid (SR blk off w D3 W) ∧ Hid (scanUp (fun x => ltInt x D3[a]!) D3 (j3) i = I3)) (fun v _ => n + 1 - (intV v).toNat)
            case atStart => exact ⟨i3, rfl, by omega, HS3, HI3.out.symm⟩
            case round =>
              obtain ⟨i, rfl, hi, HSu, HU⟩ := hrel
              obtain ⟨G, HG⟩ : ∃ G : Nat → Int, Hid (∀ t, G t = D3[t]!) := ⟨fun t => D3[t]!, fun _ => rfl⟩
              have hcw : ∀ t, t < n → wr.cell? ⟨blk, off + t, none⟩ = some (.int .u64 (G t)) := fun t ht => by rw [HG.out]; exact HSu.out.cell hH hk (by omega) t (by omega)
              have hfw : ∀ t, t < n → wr.frozen? ⟨blk, off + t, none⟩ = false := fun t ht => HSu.out.frz hH hk t (by omega)
              by_cases hij : i ≤ j3
              · have hd : decide ((i : Int) ≤ (j3 : Int)) = true := decide_eq_true (by omega)
                have hd2 : (i : Int) ≤ (j3 : Int) := by omega
                go_wp2_with fail
                go_quiet (first | (go_at_call 55; refine Calls.quiet_of_same (less_is _ _ _)))
                go_wp2_with fail
                all_goals first
                  | (have hl : ltInt (G i) (G a) = true := by assumption
                     have HP : Hid ((fun x => ltInt x D3[a]!) D3[i]! = true) := by show _ = _; simp only [← HG.out, hl]
                     go_roundw
                     case rel => exact ⟨i + 1, rfl, by omega, HSu.out.draws nq, by show _ = _; rw [← HU.out, ← up_go hij HP.out]⟩
                     case measure => simp [intV]; omega)
                  | (have hl : ltInt (G i) (G a) = false := by assumption
                     have HP : Hid (i ≤ j3 → (fun x => ltInt x D3[a]!) D3[i]! = false) := fun _ => by simp only [← HG.out, hl]
                     have HV : Hid (I3 = i) := by show _ = _; rw [← HU.out, up_end HP.out]
                     go_meet
                     case rel => exact ⟨by rw [HV.out], HSu.out.draws nq, by show _ ∧ _; rw [HV.out]; omega⟩)
              · have hd : decide ((i : Int) ≤ (j3 : Int)) = false := decide_eq_false (by omega)
                have HV : Hid (I3 = i) := by show _ = _; rw [← HU.out, up_end (fun h => absurd h hij)]
                go_wp2_with fail
                go_quiet (first | (go_at_call 55; refine Calls.quiet_of_same (less_is _ _ _)))
                go_wp2_with fail
                go_meet
                case rel => exact ⟨by rw [HV.out], HSu.out.draws nq, by show _ ∧ _; rw [HV.out]; omega⟩
          case rest =>
            obtain ⟨rfl, HS4, HB4⟩ := hcut
            have hI4 := HB4.out
            go_upto_block 8 with fail
            go_cut [11] from 99 to 152 (fun v W => v = .int .i64 (J3 : Int) ∧ Hid (SR blk off w D3 W) ∧ Hid (J3 ≤ j3 ∧ I3 ≤ J3 + 2))
            case first =>
              go_wp2_with fail
              go_loopw [11] (fun v W => ∃ j : Nat, v = .int .i64 j ∧ (j ≤ j3 ∧ I3 ≤ j + 2) ∧ Hid (SR blk off w D3 W) ∧ Hid (scanDown (fun x => !ltInt x D3[a]!) D3 I3 j = J3)) (fun v _ => (intV v).toNat)
              case atStart => exact ⟨j3, rfl, by omega, HS4, HJ3.out.symm⟩
              case round =>
                obtain ⟨j, rfl, hj, HSu, HU⟩ := hrel
                obtain ⟨G, HG⟩ : ∃ G : Nat → Int, Hid (∀ t, G t = D3[t]!) := ⟨fun t => D3[t]!, fun _ => rfl⟩
                have hcw : ∀ t, t < n → wr.cell? ⟨blk, off + t, none⟩ = some (.int .u64 (G t)) := fun t ht => by rw [HG.out]; exact HSu.out.cell hH hk (by omega) t (by omega)
                have hfw : ∀ t, t < n → wr.frozen? ⟨blk, off + t, none⟩ = false := fun t ht => HSu.out.frz hH hk t (by omega)
                have hjn : j < n := by omega
                by_cases hij : I3 ≤ j
                · have hd : decide ((I3 : Int) ≤ (j : Int)) = true := decide_eq_true (by omega)
                  have hd2 : (I3 : Int) ≤ (j : Int) := by omega
                  go_wp2_with fail
                  go_quiet (first | (go_at_call 55; refine Calls.quiet_of_same (less_is _ _ _)))
                  go_wp2_with fail
                  all_goals first
                    | (have hl : (!ltInt (G j) (G a)) = true := by assumption
                       have HP : Hid ((fun x => !ltInt x D3[a]!) D3[j]! = true) := by show _ = _; simp only [← HG.out, hl]
                       go_roundw
                       case rel => exact ⟨j - 1, by congr 1; omega, by omega, HSu.out.draws nq, by show _ = _; rw [← HU.out, ← dn_go (by omega) hij HP.out]⟩
                       case measure => simp [intV]; omega)
                    | (have hl : (!ltInt (G j) (G a)) = false := by assumption
                       have HP : Hid (I3 ≤ j → (fun x => !ltInt x D3[a]!) D3[j]! = false) := fun _ => by simp only [← HG.out, hl]
                       have HV : Hid (J3 = j) := by show _ = _; rw [← HU.out, dn_end HP.out]
                       go_meet
                       case rel => exact ⟨by rw [HV.out], HSu.out.draws nq, by show _ ∧ _; rw [HV.out]; omega⟩)
                · have hd : decide ((I3 : Int) ≤ (j : Int)) = false := decide_eq_false (by omega)
                  have HV : Hid (J3 = j) := by show _ = _; rw [← HU.out, dn_end (fun h => absurd h hij)]
                  go_wp2_with fail
                  go_quiet (first | (go_at_call 55; refine Calls.quiet_of_same (less_is _ _ _)))
                  go_wp2_with fail
                  go_meet
                  case rel => exact ⟨by rw [HV.out], HSu.out.draws nq, by show _ ∧ _; rw [HV.out]; omega⟩
            case rest =>
              obtain ⟨rfl, HS5, HB5⟩ := hcut
              have hJ4 := HB5.out
              have hJ3n : J3 < n := by omega
              have hI3n : I3 ≤ n + 1 := by omega
              obtain ⟨G5, HG5⟩ : ∃ G : Nat → Int, Hid (∀ t, G t = D3[t]!) := ⟨fun t => D3[t]!, fun _ => rfl⟩
              have hcw : ∀ t, t < n → wc.cell? ⟨blk, off + t, none⟩ = some (.int .u64 (G5 t)) := fun t ht => by rw [HG5.out]; exact HS5.out.cell hH hk (by omega) t (by omega)
              have hfw : ∀ t, t < n → wc.frozen? ⟨blk, off + t, none⟩ = false := fun t ht => HS5.out.frz hH hk t (by omega)
              by_cases hIJ3 : I3 > J3
              · have hc2 := two_cell hcw J3 a (by omega)
                have HW5 : Hid (SR blk off w (swp D3 J3 a) ((wc.setCell ⟨blk, off + J3, none⟩ (.int .u64 (G5 a))).setCell ⟨blk, off + a, none⟩ (.int .u64 (G5 J3))).drew) := HS5.out.swapD HG5.out J3 a (by omega) (by omega)
                have HE5 : Hid (PT = (J3, false, swp D3 J3 a)) := by show _ = _; rw [HE2.out, HE3.out, if_pos hIJ3]
                go_wp2_with fail
                go_region
                go_wp2_with fail
                go_ret2
                rw [HE5.out]
                exact ⟨rfl, HW5.out⟩
              · have hc2 := two_cell hcw I3 J3 (by omega)
                have HW5 : Hid (SR blk off w (swp D3 I3 J3) ((wc.setCell ⟨blk, off + I3, none⟩ (.int .u64 (G5 J3))).setCell ⟨blk, off + J3, none⟩ (.int .u64 (G5 I3))).drew) := HS5.out.swapD HG5.out I3 J3 (by omega) (by omega)
                have HE5 : Hid (partLoop ltInt a (I3 + 1) (J3 - 1) (swp D3 I3 J3) = R) := by show _ = _; rw [HE3.out, if_neg hIJ3]
                go_wp2_with fail
                go_region
                go_wp2_with fail
                go_roundw
                case rel => exact ⟨I3 + 1, J3 - 1, swp D3 I3 J3, rfl, by congr 1; omega, by omega, by rw [size_swp]; exact hD3n, HW5, HE5⟩
                case measure => simp [intV]; omega
end Go.Proofs.Ytkgjmejpbklabaa
