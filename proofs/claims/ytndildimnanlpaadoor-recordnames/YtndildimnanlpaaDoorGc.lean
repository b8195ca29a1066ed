/-
  RecordNames walked.
-/
import Derived.Test.YtndildimnanlpaaDoorGb
namespace Go.Proofs.YtndildimnanlpaaDoor
open Go.RowKit

set_option maxHeartbeats 4000000 in
set_option maxRecDepth 100000 in
theorem recordNames_any (w : World) (ht : Tab w) : Calls Tryd.prog 3 #[] w fun e w' => e = .returned (.bool true) ∧ Below w.heap.size w w' := by
  obtain ⟨i0, hi, hz0, hz1, hz2⟩ := info_parts info5
  have HT : Hid (Tab w) := ht
  have KI : Hid (∀ w, (Instr.build 31 #[(0, .int .i64 1), (2, .int .i64 63), (3, .agg (U8 v255).toArray)]).run Tryd.prog w = .ok (.agg (rcells rim).toArray) w) := fun w => build31 w _ rim ((fill_k rec0 rec0_len 1 _).trans ((fill_b ⟨1, 0, 0, zs 32, 0⟩ (zs_len 32) 63 _).trans (fill_v ⟨1, 0, 63, zs 32, 0⟩ (zs_len 32) v255 v255_len [])))
  have K0 : Hid (∀ w, (Instr.build 31 #[(0, .int .i64 0)]).run Tryd.prog w = .ok (.agg (rcells (⟨0, 0, 0, zs 32, 0⟩ : Rec)).toArray) w) := fun w => build31 w _ _ (fill_k rec0 rec0_len 0 [])
  have K1 : Hid (∀ w, (Instr.build 31 #[(0, .int .i64 3)]).run Tryd.prog w = .ok (.agg (rcells (⟨3, 0, 0, zs 32, 0⟩ : Rec)).toArray) w) := fun w => build31 w _ _ (fill_k rec0 rec0_len 3 [])
  have K2 : Hid (∀ w, (Instr.build 31 #[(0, .int .i64 2), (4, .int .i64 17)]).run Tryd.prog w = .ok (.agg (rcells (⟨2, 0, 0, zs 32, 17⟩ : Rec)).toArray) w) := fun w => build31 w _ _ ((fill_k rec0 rec0_len 2 _).trans (fill_i (⟨2, 0, 0, zs 32, 0⟩ : Rec) (zs_len 32) 17 []))
  have K3 : Hid (∀ w, (Instr.build 31 #[(0, .int .i64 2), (2, .int .i64 1)]).run Tryd.prog w = .ok (.agg (rcells (⟨2, 0, 1, zs 32, 0⟩ : Rec)).toArray) w) := fun w => build31 w _ _ ((fill_k rec0 rec0_len 2 _).trans (fill_b (⟨2, 0, 0, zs 32, 0⟩ : Rec) (zs_len 32) 1 []))
  have K4 : Hid (∀ w, (Instr.build 31 #[(0, .int .i64 1), (4, .int .i64 1)]).run Tryd.prog w = .ok (.agg (rcells (⟨1, 0, 0, zs 32, 1⟩ : Rec)).toArray) w) := fun w => build31 w _ _ ((fill_k rec0 rec0_len 1 _).trans (fill_i (⟨1, 0, 0, zs 32, 0⟩ : Rec) (zs_len 32) 1 []))
  have K5 : Hid (∀ w, (Instr.build 31 #[(0, .int .i64 1), (2, .int .i64 64)]).run Tryd.prog w = .ok (.agg (rcells (⟨1, 0, 64, zs 32, 0⟩ : Rec)).toArray) w) := fun w => build31 w _ _ ((fill_k rec0 rec0_len 1 _).trans (fill_b (⟨1, 0, 0, zs 32, 0⟩ : Rec) (zs_len 32) 64 []))
  have K6 : Hid (∀ w, (Instr.build 31 #[(0, .int .i64 1), (2, .int .i64 (-1))]).run Tryd.prog w = .ok (.agg (rcells (⟨1, 0, -1, zs 32, 0⟩ : Rec)).toArray) w) := fun w => build31 w _ _ ((fill_k rec0 rec0_len 1 _).trans (fill_b (⟨1, 0, 0, zs 32, 0⟩ : Rec) (zs_len 32) (-1) []))
  have K7 : Hid (∀ w, (Instr.build 31 #[(0, .int .i64 2), (1, .int .u64 4611686018427387905)]).run Tryd.prog w = .ok (.agg (rcells (⟨2, 4611686018427387905, 0, zs 32, 0⟩ : Rec)).toArray) w) := fun w => build31 w _ _ ((fill_k rec0 rec0_len 2 _).trans (fill_p (⟨2, 0, 0, zs 32, 0⟩ : Rec) (zs_len 32) 4611686018427387905 []))
  have K8 : Hid (∀ w, (Instr.build 31 #[(0, .int .i64 2), (3, .agg (U8 v255).toArray)]).run Tryd.prog w = .ok (.agg (rcells (⟨2, 0, 0, v255, 0⟩ : Rec)).toArray) w) := fun w => build31 w _ _ ((fill_k rec0 rec0_len 2 _).trans (fill_v (⟨2, 0, 0, zs 32, 0⟩ : Rec) (zs_len 32) v255 v255_len []))
  clear ht
  go_enter Tryd.func3, Tryd.ntmps3
  go_wp2_with fail
  refine (fixed_any w HT.out).mono ?_
  rintro e w1 ⟨rfl, b1⟩
  have B1 : Hid (Below w.heap.size w w1) := b1
  have A1 : Hid (_) := alloc24 w1
  have V1 : Hid (VAt (w1.alloc (.cells (U8 (zs 32)).toArray 24)) w1.heap.size (filled v255 0)) := heap_alloc_new w1 _
  clear b1
  go_wp2_with ((with_reducible refine at_list ?_); (refine wpList_alloc_is (by rfl) 24 rfl A1.out ?_); simp only [Act.put, List.setIfInBounds_toArray, List.set_cons_zero, List.set_cons_succ])
  go_loopw [2] (fun i wr => ∃ k : Nat, k ≤ 32 ∧ i = .int .i64 k ∧ Hid (VAt wr w1.heap.size (filled v255 k) ∧ Below w1.heap.size w1 wr)) (fun i _ => 32 - (intOf i).toNat)
  case atStart => exact ⟨0, by omega, rfl, V1.out, below_alloc w1 _⟩
  case round =>
    obtain ⟨k, hk, rfl, HR⟩ := hrel
    clear V1 A1
    by_cases hlt : k < 32
    · have hkl : k < v255.length := by rw [v255_len]; exact hlt
      have hcell := HR.out.1.cell k
      have hlen : (filled v255 k).length = 32 := (filled_length _ _ (by rw [v255_len]; exact hk)).trans v255_len
      obtain ⟨u, hu⟩ : ∃ u, wr.cell? ⟨w1.heap.size, k, none⟩ = some u := ⟨_, by rw [hcell]; exact List.getElem?_eq_getElem (by rw [U8_length, hlen]; exact hlt)⟩
      have hfz := frozen_of_row wr w1.heap.size k _ 24 HR.out.1
      have H1 : Hid (VAt (wr.setCell ⟨w1.heap.size, k, none⟩ (.int .u8 255)) w1.heap.size (filled v255 (k + 1))) := by
        have := HR.out.1.set (j := k) 255
        rw [← v255_at k hkl, filled_step _ _ hkl, v255_at k hkl] at this
        exact this
      have H2 : Hid (Below w1.heap.size w1 (wr.setCell ⟨w1.heap.size, k, none⟩ (.int .u8 255))) := HR.out.2.setCell (Nat.le_refl _) _
      clear hcell hlen HR
      go_wp2
      go_roundw
      case rel => exact ⟨k + 1, by omega, by go_num, H1.out, H2.out⟩
      case measure => simp [intOf]; omega
    · obtain ⟨w2, hw2⟩ : ∃ w2, w2 = wr := ⟨_, rfl⟩
      subst hw2
      have V2 : Hid (VAt w2 w1.heap.size v255) := by have := HR.out.1; rw [filled_all _ _ (by rw [v255_len]; omega)] at this; exact this
      have B2 : Hid (Below w.heap.size w w2) := below_then B1.out HR.out.2
      have L2 : Hid (_) := V2.out.load v255_len
      clear HR B1
      go_wp2_with ((with_reducible refine at_list ?_); (first | (refine wpList_load_is (by rfl) 24 rfl rfl L2.out ?_) | (refine wpList_build_is (vs := [(0, .int .i64 1), (2, .int .i64 63), (3, .agg (U8 v255).toArray)]) (by rfl) 31 rfl (by rfl) (KI.out _) ?_)); simp only [Act.put, List.setIfInBounds_toArray, List.set_cons_zero, List.set_cons_succ])
      refine (enc_im w2 (HT.out.later B2.out)).mono ?_
      rintro e w3 ⟨b, o, c, rfl, m3⟩
      have B3 : Hid (Below w.heap.size w w3) := below_then B2.out m3.below
      have V3 : Hid (VAt w3 w1.heap.size v255) := V2.out.later m3.below
      have L3 : Hid (_) := V3.out.load v255_len
      have x4 := m3.read.cell 4 (by omega)
      have x12 := m3.read.cell 12 (by omega)
      have x13 := m3.read.cell 13 (by omega)
      have x16 := m3.read.cell 16 (by omega)
      have x47 := m3.read.cell 47 (by omega)
      have x48 := m3.read.cell 48 (by omega)
      have hc64 := m3.le
      rw [rim_4] at x4
      rw [rim_12] at x12
      rw [rim_13] at x13
      rw [rim_16] at x16
      rw [rim_47] at x47
      rw [rim_48] at x48
      have M3 : Hid (_) := run_bads w3
      have B4 : Hid (Below w.heap.size w (w3.alloc (.cells (bcells bads).toArray 31))) := below_then B3.out (below_alloc w3 _)
      have P4 : Hid (LAt (w3.alloc (.cells (bcells bads).toArray 31)) w3.heap.size) := heap_alloc_new w3 _
      clear m3 V2 L2 B2
      go_wp2_with ((with_reducible refine at_list ?_); (first | (refine wpList_load_is (by rfl) 24 rfl rfl L3.out ?_) | (refine wpList_build_is (vs := [(0, .int .i64 0)]) (by rfl) 31 rfl (by rfl) (K0.out _) ?_) | (refine wpList_build_is (vs := [(0, .int .i64 3)]) (by rfl) 31 rfl (by rfl) (K1.out _) ?_) | (refine wpList_build_is (vs := [(0, .int .i64 2), (4, .int .i64 17)]) (by rfl) 31 rfl (by rfl) (K2.out _) ?_) | (refine wpList_build_is (vs := [(0, .int .i64 2), (2, .int .i64 1)]) (by rfl) 31 rfl (by rfl) (K3.out _) ?_) | (refine wpList_build_is (vs := [(0, .int .i64 1), (4, .int .i64 1)]) (by rfl) 31 rfl (by rfl) (K4.out _) ?_) | (refine wpList_build_is (vs := [(0, .int .i64 1), (2, .int .i64 64)]) (by rfl) 31 rfl (by rfl) (K5.out _) ?_) | (refine wpList_build_is (vs := [(0, .int .i64 1), (2, .int .i64 (-1))]) (by rfl) 31 rfl (by rfl) (K6.out _) ?_) | (refine wpList_build_is (vs := [(0, .int .i64 2), (1, .int .u64 4611686018427387905)]) (by rfl) 31 rfl (by rfl) (K7.out _) ?_) | (refine wpList_build_is (vs := [(0, .int .i64 2), (3, .agg (U8 v255).toArray)]) (by rfl) 31 rfl (by rfl) (K8.out _) ?_) | (refine wpList_lit_is (vs := bparts 0 bads) (by rfl) 32 9 rfl (by rfl) M3.out ?_)); simp only [Act.put, List.setIfInBounds_toArray, List.set_cons_zero, List.set_cons_succ])
      clear x4 x12 x13 x16 x47 x48
      go_loopw [6] (fun i wr => ∃ k : Nat, k ≤ 9 ∧ i = .int .i64 k ∧ Hid (LAt wr w3.heap.size ∧ Below w.heap.size w wr)) (fun i _ => 9 - (intOf i).toNat)
      case atStart => exact ⟨0, by omega, rfl, P4.out, B4.out⟩
      case round =>
        obtain ⟨k, hk, rfl, HR⟩ := hrel
        clear P4 B4 M3
        obtain ⟨w5, hw5⟩ : ∃ w5, w5 = wr := ⟨_, rfl⟩
        subst hw5
        by_cases hlt : k < 9
        · have hkl : k < bads.length := hlt
          have L5 : Hid (_) := HR.out.1.load k hkl
          have HNO : Hid (¬ may bads[k] = true) := bads_no k hkl
          have HVL : Hid (bads[k].val.length = 32) := bads_len k hkl
          have HC : Hid (chk bads[k] = 60) := chk_no _ HNO.out
          have HRL : Hid (∀ w', LAt w' w3.heap.size → (Instr.loadAt 31 (.pointer (some ⟨w3.heap.size, k * 36, none⟩))).run Tryd.prog w' = .ok (.agg (rcells bads[k]).toArray) w') := fun w' h => h.load k hkl
          generalize bads[k] = r at *
          clear hkl
          go_wp2_with ((with_reducible refine at_list ?_); (refine wpList_load_is (by rfl) 31 rfl rfl L5.out ?_); simp only [Act.put, List.setIfInBounds_toArray, List.set_cons_zero, List.set_cons_succ])
          refine (encode_bad r HVL.out HNO.out w5).mono ?_
          rintro e w6 ⟨rfl, b6⟩
          have P6 : Hid (LAt w6 w3.heap.size) := HR.out.1.later b6
          have B6 : Hid (Below w.heap.size w w6) := below_then HR.out.2 b6
          have L6 : Hid (_) := HRL.out w6 P6.out
          clear b6 L5 HR
          go_wp2_with ((with_reducible refine at_list ?_); (refine wpList_load_is (by rfl) 31 rfl rfl L6.out ?_); simp only [Act.put, List.setIfInBounds_toArray, List.set_cons_zero, List.set_cons_succ])
          refine (check_any r HVL.out _).mono ?_
          rintro e w7 ⟨rfl, b7⟩
          rw [HC.out]
          have P7 : Hid (LAt w7 w3.heap.size) := P6.out.later b7
          have B7 : Hid (Below w.heap.size w w7) := below_then B6.out b7
          clear b7 L6 P6 B6
          go_wp2_with fail
          go_roundw
          case rel => exact ⟨k + 1, by omega, by go_num, P7.out, B7.out⟩
          case measure => simp [intOf]; omega
        · have B5 : Hid (Below w.heap.size w w5) := HR.out.2
          clear HR
          go_wp2_with (at_make; refine wpList_make_full _ rfl _ _ 25 rfl w5.heap.size 5 i0 (.int .u8 0) 1 Tryd.underlying25 hi hz0 hz1 .i64 .i64 _ _ 63 rfl rfl rfl rfl (by rw [hz2]; omega) (by unfold maxLen; omega) (Nat.le_refl _) ?_)
          intro w6 hown hgrow
          have B6 : Hid (Below w.heap.size w w6) := below_then B5.out ((Below.refl w5.heap.size w5).grown hgrow (Nat.le_refl _) (by intro k hk; cases hk))
          clear hown hgrow B5
          go_wp2_with fail
          refine (decode_len _ 63 63 w6 (by omega)).mono ?_
          rintro e w7 ⟨rfl, b7⟩
          have B7 : Hid (Below w.heap.size w w7) := below_then B6.out b7
          have A7 : Hid (_) := alloc31 w7
          have S7 : Hid (_) := store_new size31 w7 rec0 rec0_len
          have B8 : Hid (Below w.heap.size w (w7.alloc (.cells (rcells rec0).toArray 31))) := below_then B7.out (below_alloc w7 _)
          clear b7 B6
          go_wp2_with ((with_reducible refine at_list ?_); first | (refine wpList_alloc_is (by rfl) 31 rfl A7.out ?_) | (refine wpList_store_is (by rfl) 31 rfl rfl rfl S7.out ?_) | (at_make; refine wpList_make_full _ rfl _ _ 25 rfl (w7.alloc (.cells (rcells rec0).toArray 31)).heap.size 5 i0 (.int .u8 0) 1 Tryd.underlying25 hi hz0 hz1 .i64 .i64 _ _ 65 rfl rfl rfl rfl (by rw [hz2]; omega) (by unfold maxLen; omega) (Nat.le_refl _) ?_))
          intro w9 hown hgrow
          have B9 : Hid (Below w.heap.size w w9) := below_then B8.out ((Below.refl (w7.alloc (.cells (rcells rec0).toArray 31)).heap.size (w7.alloc (.cells (rcells rec0).toArray 31))).grown hgrow (Nat.le_refl _) (by intro k hk; cases hk))
          clear hown hgrow B8 A7 S7
          go_wp2_with fail
          refine (decode_len _ 65 65 w9 (by omega)).mono ?_
          rintro e w10 ⟨rfl, b10⟩
          have B10 : Hid (Below w.heap.size w w10) := below_then B9.out b10
          have A10 : Hid (_) := alloc31 w10
          have S10 : Hid (_) := store_new size31 w10 rec0 rec0_len
          have B11 : Hid (Below w.heap.size w (w10.alloc (.cells (rcells rec0).toArray 31))) := below_then B10.out (below_alloc w10 _)
          clear b10 B9
          go_wp2_with ((with_reducible refine at_list ?_); (first | (refine wpList_alloc_is (by rfl) 31 rfl A10.out ?_) | (refine wpList_store_is (by rfl) 31 rfl rfl rfl S10.out ?_)); simp only [Act.put, List.setIfInBounds_toArray, List.set_cons_zero, List.set_cons_succ])
          go_ret
          exact ⟨rfl, B11.out⟩
end Go.Proofs.YtndildimnanlpaaDoor
