/-
  SuperTurned walked.
-/
import Derived.Test.YtcfofoddfhbkcaaDoorTa
import Derived.BigRegion
namespace Go.Proofs.YtcfofoddfhbkcaaDoor
open Go.RowKit

/-- turned bytes are refused -/
theorem turned_err (Y : List Int) (hl : Y.length = 64) (t L : Nat) (ht : t < 4294967296) (h0 : t ≠ 0) (hc : crc Y = 558161692 ^^^ acc t L 4) : decS Y = (sup0, 70) := by
  refine decS_turned Y hl fun h => ?_
  rw [hc] at h
  exact h0 ((acc_four t L ht).1 ((xor_same _ _).1 h))

set_option maxHeartbeats 8000000 in
set_option maxRecDepth 100000 in
theorem superTurned_any (s : Sup) (hw : s.Wf) (A : Int) (x0 : Nat) (hx0 : x0 < 4294967296) (w : World) (ht : Tab w) :
    Calls Tryd.prog 4 #[.agg (scells s).toArray, .int .i64 A, .int .u32 x0] w fun e w' => e = .returned (.bool true) ∧ Below w.heap.size w w' := by
  have HT : Hid (Tab w) := ht
  have HW : Hid (s.Wf) := hw
  have R0 : Hid (SAt 26 (w.alloc (.cells (scells s).toArray 26)) w.heap.size s) := LAt.new 26 w _
  have B0 : Hid (Below w.heap.size w (w.alloc (.cells (scells s).toArray 26))) := below_alloc w _
  clear ht hw
  go_enter Tryd.func4, Tryd.ntmps4
  go_wp2_with fail
  generalize w.alloc (.cells (scells s).toArray 26) = w0 at *
  refine (awake_any w0 (HT.out.later B0.out)).mono ?_
  rintro e w1 ⟨rfl, b1⟩
  have R1 : Hid (SAt 26 w1 w.heap.size s) := LAt.later R0.out b1
  have B1 : Hid (Below w.heap.size w w1) := below_then B0.out b1
  have L1 : Hid (_) := SAt.load26 R1.out
  clear b1 R0 B0
  go_wp2_with ((with_reducible refine at_ops ?_); (first | (refine wpList_load_is (by rfl) 26 rfl rfl L1.out ?_)); simp only [Act.put, List.setIfInBounds_toArray, List.set_cons_zero, List.set_cons_succ])
  refine (may_any s HW.out w1).mono ?_
  rintro e w2 ⟨rfl, b2⟩
  have B2 : Hid (Below w.heap.size w w2) := below_then B1.out b2
  clear b2 R1 B1 L1
  go_wp2_with fail
  refine (encode_good (mayS s) (mayS_wf s) (mayS_may s) w2 (HT.out.later B2.out)).mono ?_
  obtain ⟨x, hx⟩ : ∃ x, x = mayS s := ⟨_, rfl⟩
  have EB : Hid (Bytes (encS x) ∧ (encS x).length = 64 ∧ crc (encS x) = 558161692) := ⟨encS_bytes x, encS_len x, encS_sum x⟩
  rw [← hx]
  clear hx
  rintro e w3 ⟨gb, rfl, m3⟩
  have O3 : Hid (w3.ownsRow w.heap.size 5 1 (.slice (some ⟨gb, 0, none⟩) 64 64) 64 (U8 (encS x))) := own_mono m3.own B2.out.size
  have B3 : Hid (Below w.heap.size w w3) := below_then B2.out m3.below
  have hwb : w.heap.size ≤ gb := (O3.out.lt gb rfl).1
  clear m3 B2
  go_wp2_with fail
  refine (num_any 0 (by decide) w3).mono ?_
  rintro e wz ⟨rfl, rfl⟩
  obtain ⟨q, i, hi1, hi2, hi3, hi4, hi5, hi6⟩ := place A 61 (by omega)
  have hi1' : A.tmod 61 = q := hi1
  have hi4' : (q + 61).tmod 61 = (i : Int) := hi4
  have hi2' : -61 < q := hi2
  have hi3' : q < 61 := hi3
  clear hi1 hi2 hi3 hi4 hi5
  have K0 : Hid (∀ w, (Instr.build 29 #[]).run Tryd.prog w = .ok (.agg (scells sup0).toArray) w) := fun w => build29 w #[] sup0 fill_none
  have QE : Hid (∀ w, (binOp .eql 29 (.agg (scells sup0).toArray) (.agg (scells sup0).toArray)).run Tryd.prog w = .ok (.bool true) w) := fun w => by have := eql29 w sup0 sup0; rwa [supB_same sup0] at this
  by_cases h0 : x0 = 0
  · subst h0
    go_wp2_with fail
    obtain ⟨t, htt⟩ : ∃ t : Nat, t = 1 := ⟨1, rfl⟩
    have ht1 : (1 : Int) = (t : Int) := by rw [htt]; rfl
    have htn : t < 4294967296 := by omega
    have ht0 : t ≠ 0 := by omega
    rw [show (Value.int .u32 1) = .int .u32 (t : Int) by rw [← ht1]]
    clear ht1 htt
    clear hi1' hi4' hi2' hi3'
    go_loopw [10] (fun k wr => ∃ (j : Nat) (Y : List Int), j ≤ 4 ∧ k = .int .i64 j ∧ Hid (Bytes Y ∧ Y.length = 64 ∧ crc Y = 558161692 ^^^ acc t (64 - i) j ∧ wr.ownsRow w.heap.size 5 1 (.slice (some ⟨gb, 0, none⟩) 64 64) 64 (U8 Y) ∧ Below w.heap.size w wr)) (fun k _ => 4 - (intOf k).toNat)
    case atStart => exact ⟨0, encS x, by omega, rfl, EB.out.1, EB.out.2.1, by rw [acc_zero, Nat.xor_zero]; exact EB.out.2.2, O3.out, B3.out⟩
    case round =>
      obtain ⟨j, Y, hj, rfl, HR⟩ := hrel
      clear EB O3 B3
      obtain ⟨w8, hw8⟩ : ∃ w8, w8 = wr := ⟨_, rfl⟩
      subst hw8
      by_cases hlt : j < 4
      · have hiY : i + j < Y.length := by rw [HR.out.2.1]; omega
        have hx : (t : Int) / 2 ^ (8 * j) % 256 = ((t / 2 ^ (8 * j) % 256 : Nat) : Int) := by simp
        have TT : Hid (_) := turn_text Y HR.out.1 (i + j) hiY ((t : Int) / 2 ^ (8 * j) % 256) (by omega) (by omega)
        have hcY : w8.cell? ⟨gb, i + j, none⟩ = some (.int .u8 Y[i + j]) := by
          rw [HR.out.2.2.2.1.cellAt (i + j) (by omega)]
          simp [U8, List.getElem?_eq_getElem hiY]
        have hfz := HR.out.2.2.2.1.frozenAt (i + j)
        have hst := HR.out.2.2.2.1.stored (i + j) (.int .u8 (bits .xor .u8 Y[i + j] ((t : Int) / 2 ^ (8 * j) % 256)))
        have hset : (U8 Y).set (i + j) (.int .u8 (bits .xor .u8 Y[i + j] ((t : Int) / 2 ^ (8 * j) % 256))) = U8 (Y.set (i + j) (bits .xor .u8 Y[i + j] ((t : Int) / 2 ^ (8 * j) % 256))) := by simp [U8, List.map_set]
        rw [hset] at hst
        obtain ⟨Z, hZ⟩ : ∃ Z, Z = Y.set (i + j) (bits .xor .u8 Y[i + j] ((t : Int) / 2 ^ (8 * j) % 256)) := ⟨_, rfl⟩
        have HZ : Hid (Bytes Z ∧ Z.length = 64 ∧ crc Z = 558161692 ^^^ acc t (64 - i) (j + 1) ∧ (w8.setCell ⟨gb, i + j, none⟩ (.int .u8 (bits .xor .u8 Y[i + j] ((t : Int) / 2 ^ (8 * j) % 256)))).drew.ownsRow w.heap.size 5 1 (.slice (some ⟨gb, 0, none⟩) 64 64) 64 (U8 Z) ∧ Below w.heap.size w (w8.setCell ⟨gb, i + j, none⟩ (.int .u8 (bits .xor .u8 Y[i + j] ((t : Int) / 2 ^ (8 * j) % 256)))).drew) := by
          rw [hZ]
          refine ⟨TT.out.1, by rw [List.length_set]; exact HR.out.2.1, ?_, hst.1.drew, (HR.out.2.2.2.2.setCell hwb _).drew⟩
          rw [TT.out.2, HR.out.2.2.1, acc_step _ _ _ (by omega), Nat.xor_assoc, hx, Int.toNat_natCast, HR.out.2.1]
          rw [show 64 - 1 - (i + j) = 64 - i - 1 - j by omega]
        clear hst hset hZ TT HR hx
        generalize Y[i + j] = z at *
        have i1 : (i : Int) + (j : Int) < 64 := by omega
        have i0 : (0 : Int) ≤ (i : Int) + (j : Int) := by omega
        go_wp2_with fail
        go_region
        generalize (w8.setCell ⟨gb, i + j, none⟩ (.int .u8 (bits .xor .u8 z ((t : Int) / 2 ^ (8 * j) % 256)))).drew = w9 at *
        clear hcY hfz
        go_wp2_with fail
        go_roundw
        case rel => exact ⟨j + 1, Z, by omega, by go_num, HZ.out⟩
        case measure => simp [intOf]; omega
      · have hj4 : j = 4 := by omega
        have R8 : Hid (BIn w8 (some ⟨gb, 0, none⟩) 64 Y) := own_bin HR.out.2.2.2.1 HR.out.1
        have HE : Hid (decS Y = (sup0, 70)) := turned_err Y HR.out.2.1 t (64 - i) htn ht0 (by have := HR.out.2.2.1; rwa [hj4] at this)
        have B8 : Hid (Below w.heap.size w w8) := HR.out.2.2.2.2
        clear HR hj4
        go_wp2_with fail
        refine (decode_any _ 64 64 Y w8 R8.out (by omega) (HT.out.later B8.out)).mono ?_
        rintro e w9 ⟨rfl, b9⟩
        rw [HE.out]
        have A9 : Hid (_) := alloc29 w9
        have S9 : Hid (_) := store_new29 w9 sup0
        obtain ⟨w10, hw10⟩ : ∃ x, x = w9.alloc (.cells (scells sup0).toArray 29) := ⟨_, rfl⟩
        have B10 : Hid (Below w.heap.size w w10) := by rw [hw10]; exact below_then (below_then B8.out b9) (below_alloc w9 _)
        have R10 : SAt 29 w10 w9.heap.size sup0 := by rw [hw10]; exact LAt.new 29 w9 _
        have L10 : Hid (_) := SAt.load29 R10
        rw [← hw10] at S9 A9
        clear b9 HE R8 B8 hw10 R10
        go_wp2_with ((with_reducible refine at_ops ?_); (first | (refine wpList_alloc_is (by rfl) 29 rfl A9.out ?_) | (refine wpList_store_is (by rfl) 29 rfl rfl rfl S9.out ?_)); simp only [Act.put, List.setIfInBounds_toArray, List.set_cons_zero, List.set_cons_succ])
        refine (num_any 70 (by decide) w10).mono ?_
        rintro e wz ⟨rfl, rfl⟩
        go_wp2_with ((with_reducible refine at_ops ?_); (first | (refine wpList_load_is (by rfl) 29 rfl rfl L10.out ?_) | (refine wpList_build_is (vs := []) (by rfl) 29 rfl (by rfl) (K0.out _) ?_) | (refine wpList_eql_is (by rfl) 29 rfl rfl rfl eqg29 (QE.out _) ?_)); simp only [Act.put, List.setIfInBounds_toArray, List.set_cons_zero, List.set_cons_succ])
        go_ret
        exact ⟨by simp, B10.out⟩
  · have hz : ((x0 : Int) == 0) = false := by simp; omega
    have htn := hx0
    have ht0 := h0
    go_wp2_with fail
    clear hz
    generalize x0 = t at *
    clear hi1' hi4' hi2' hi3'
    go_loopw [10] (fun k wr => ∃ (j : Nat) (Y : List Int), j ≤ 4 ∧ k = .int .i64 j ∧ Hid (Bytes Y ∧ Y.length = 64 ∧ crc Y = 558161692 ^^^ acc t (64 - i) j ∧ wr.ownsRow w.heap.size 5 1 (.slice (some ⟨gb, 0, none⟩) 64 64) 64 (U8 Y) ∧ Below w.heap.size w wr)) (fun k _ => 4 - (intOf k).toNat)
    case atStart => exact ⟨0, encS x, by omega, rfl, EB.out.1, EB.out.2.1, by rw [acc_zero, Nat.xor_zero]; exact EB.out.2.2, O3.out, B3.out⟩
    case round =>
      obtain ⟨j, Y, hj, rfl, HR⟩ := hrel
      clear EB O3 B3
      obtain ⟨w8, hw8⟩ : ∃ w8, w8 = wr := ⟨_, rfl⟩
      subst hw8
      by_cases hlt : j < 4
      · have hiY : i + j < Y.length := by rw [HR.out.2.1]; omega
        have hx : (t : Int) / 2 ^ (8 * j) % 256 = ((t / 2 ^ (8 * j) % 256 : Nat) : Int) := by simp
        have TT : Hid (_) := turn_text Y HR.out.1 (i + j) hiY ((t : Int) / 2 ^ (8 * j) % 256) (by omega) (by omega)
        have hcY : w8.cell? ⟨gb, i + j, none⟩ = some (.int .u8 Y[i + j]) := by
          rw [HR.out.2.2.2.1.cellAt (i + j) (by omega)]
          simp [U8, List.getElem?_eq_getElem hiY]
        have hfz := HR.out.2.2.2.1.frozenAt (i + j)
        have hst := HR.out.2.2.2.1.stored (i + j) (.int .u8 (bits .xor .u8 Y[i + j] ((t : Int) / 2 ^ (8 * j) % 256)))
        have hset : (U8 Y).set (i + j) (.int .u8 (bits .xor .u8 Y[i + j] ((t : Int) / 2 ^ (8 * j) % 256))) = U8 (Y.set (i + j) (bits .xor .u8 Y[i + j] ((t : Int) / 2 ^ (8 * j) % 256))) := by simp [U8, List.map_set]
        rw [hset] at hst
        obtain ⟨Z, hZ⟩ : ∃ Z, Z = Y.set (i + j) (bits .xor .u8 Y[i + j] ((t : Int) / 2 ^ (8 * j) % 256)) := ⟨_, rfl⟩
        have HZ : Hid (Bytes Z ∧ Z.length = 64 ∧ crc Z = 558161692 ^^^ acc t (64 - i) (j + 1) ∧ (w8.setCell ⟨gb, i + j, none⟩ (.int .u8 (bits .xor .u8 Y[i + j] ((t : Int) / 2 ^ (8 * j) % 256)))).drew.ownsRow w.heap.size 5 1 (.slice (some ⟨gb, 0, none⟩) 64 64) 64 (U8 Z) ∧ Below w.heap.size w (w8.setCell ⟨gb, i + j, none⟩ (.int .u8 (bits .xor .u8 Y[i + j] ((t : Int) / 2 ^ (8 * j) % 256)))).drew) := by
          rw [hZ]
          refine ⟨TT.out.1, by rw [List.length_set]; exact HR.out.2.1, ?_, hst.1.drew, (HR.out.2.2.2.2.setCell hwb _).drew⟩
          rw [TT.out.2, HR.out.2.2.1, acc_step _ _ _ (by omega), Nat.xor_assoc, hx, Int.toNat_natCast, HR.out.2.1]
          rw [show 64 - 1 - (i + j) = 64 - i - 1 - j by omega]
        clear hst hset hZ TT HR hx
        generalize Y[i + j] = z at *
        have i1 : (i : Int) + (j : Int) < 64 := by omega
        have i0 : (0 : Int) ≤ (i : Int) + (j : Int) := by omega
        go_wp2_with fail
        go_region
        generalize (w8.setCell ⟨gb, i + j, none⟩ (.int .u8 (bits .xor .u8 z ((t : Int) / 2 ^ (8 * j) % 256)))).drew = w9 at *
        clear hcY hfz
        go_wp2_with fail
        go_roundw
        case rel => exact ⟨j + 1, Z, by omega, by go_num, HZ.out⟩
        case measure => simp [intOf]; omega
      · have hj4 : j = 4 := by omega
        have R8 : Hid (BIn w8 (some ⟨gb, 0, none⟩) 64 Y) := own_bin HR.out.2.2.2.1 HR.out.1
        have HE : Hid (decS Y = (sup0, 70)) := turned_err Y HR.out.2.1 t (64 - i) htn ht0 (by have := HR.out.2.2.1; rwa [hj4] at this)
        have B8 : Hid (Below w.heap.size w w8) := HR.out.2.2.2.2
        clear HR hj4
        go_wp2_with fail
        refine (decode_any _ 64 64 Y w8 R8.out (by omega) (HT.out.later B8.out)).mono ?_
        rintro e w9 ⟨rfl, b9⟩
        rw [HE.out]
        have A9 : Hid (_) := alloc29 w9
        have S9 : Hid (_) := store_new29 w9 sup0
        obtain ⟨w10, hw10⟩ : ∃ x, x = w9.alloc (.cells (scells sup0).toArray 29) := ⟨_, rfl⟩
        have B10 : Hid (Below w.heap.size w w10) := by rw [hw10]; exact below_then (below_then B8.out b9) (below_alloc w9 _)
        have R10 : SAt 29 w10 w9.heap.size sup0 := by rw [hw10]; exact LAt.new 29 w9 _
        have L10 : Hid (_) := SAt.load29 R10
        rw [← hw10] at S9 A9
        clear b9 HE R8 B8 hw10 R10
        go_wp2_with ((with_reducible refine at_ops ?_); (first | (refine wpList_alloc_is (by rfl) 29 rfl A9.out ?_) | (refine wpList_store_is (by rfl) 29 rfl rfl rfl S9.out ?_)); simp only [Act.put, List.setIfInBounds_toArray, List.set_cons_zero, List.set_cons_succ])
        refine (num_any 70 (by decide) w10).mono ?_
        rintro e wz ⟨rfl, rfl⟩
        go_wp2_with ((with_reducible refine at_ops ?_); (first | (refine wpList_load_is (by rfl) 29 rfl rfl L10.out ?_) | (refine wpList_build_is (vs := []) (by rfl) 29 rfl (by rfl) (K0.out _) ?_) | (refine wpList_eql_is (by rfl) 29 rfl rfl rfl eqg29 (QE.out _) ?_)); simp only [Act.put, List.setIfInBounds_toArray, List.set_cons_zero, List.set_cons_succ])
        go_ret
        exact ⟨by simp, B10.out⟩
end Go.Proofs.YtcfofoddfhbkcaaDoor
