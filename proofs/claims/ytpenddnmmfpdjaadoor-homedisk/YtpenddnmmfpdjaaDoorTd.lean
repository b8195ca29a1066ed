/-
  HomeNames walked.
-/
import Derived.Test.YtpenddnmmfpdjaaDoorSm
import Derived.Test.YtpenddnmmfpdjaaDoorDLg
namespace Go.Proofs.YtpenddnmmfpdjaaDoor
open Go.RowKit

def smL : Sup := ⟨2, 4, 1, 1, 1, 0, 0⟩
def smM : Sup := ⟨2, 3, 3, 1, 1, 0, 0⟩
theorem smM_not : ¬ MayC smM := by decide
theorem smL_may : MayC smL := by decide
theorem sm_rf : rfS sm ((6 : Nat) : Int) = 0 := by decide
theorem sm_rb2 : rbS sm ((6 : Nat) : Int) 2 = 51 := by decide
theorem sm_rbL : rbS smL ((6 : Nat) : Int) 9 = 40 := by decide
theorem sm_rbM : rbS smM ((6 : Nat) : Int) 9 = 3 := by decide
theorem new_ld {s : Sup} (h : MayC s) (i : Nat) (hi : i < s.bl.toNat) : ldS s ((cntS s : Nat) : Int) [] (newS s) (i : Int) = (zs 32, 0) := by
  have h1 := h.1
  have hr : rbS s ((cntS s : Nat) : Int) (i : Int) = 0 := rbS_ok (rfS_ok h (cntS_is h)) ⟨by omega, by omega⟩
  rw [ldS_yes _ _ hr, newest_nil, show (1 + (i : Int)).toNat = 1 + i by omega, newS_sec s i hi]
  exact hdec_homeS ⟨by omega, by omega⟩ (zs_len 32)
theorem new_all {s : Sup} (h : MayC s) : alS s ((cntS s : Nat) : Int) [] (newS s) = (List.replicate s.bl.toNat (zs 32), 0) := by
  rw [alS_ok (rfS_ok h (cntS_is h)) (allB_iff.2 fun i hi => by rw [new_ld h i hi])]
  congr 1
  unfold vals
  apply List.ext_getElem
  · simp
  · intro i h1 h2
    simp only [List.getElem_map, List.getElem_range, List.getElem_replicate]
    rw [new_ld h i (by simpa using h1)]
theorem sm_all : alS sm ((6 : Nat) : Int) [] (newS sm) = ([zs 32, zs 32], 0) := new_all sm_may
theorem hd3 : hdec (homeS 2 (zs 32)) 3 = (zs 32, 80) := hdec_other ⟨by omega, by omega⟩ (zs_len 32) (by omega)
theorem hdz : hdec (zs 64) 2 = (zs 32, 80) := hdec_bad ⟨by omega, by omega⟩ (zs_len 64) fun e => by
  have := congrArg (fun l => l.getD 0 0) e
  have e2 : (homeS 2 (cutV (zs 64))).getD 0 0 = 72 := rfl
  rw [e2] at this
  exact absurd this (by decide)
theorem hd63 : hdec ((homeS 2 (zs 32)).take 63) 2 = (zs 32, 2) := hdec_short ⟨by omega, by omega⟩ (by rw [List.length_take, homeS_len _ (zs_len 32)]; omega)
theorem hd64 (xs : List Int) : hdec xs 64 = (zs 32, 51) := hdec_out xs (by omega)

set_option maxHeartbeats 8000000 in
set_option maxRecDepth 100000 in
theorem homeNames_any (w : World) (ht : Tab w) : Calls Tryd.prog 5 #[] w fun e w' => e = .returned (.bool true) ∧ Below w.heap.size w w' := by
  obtain ⟨iv, hiv, hzv0, hzv1, hzv2⟩ := info_parts info23
  obtain ⟨i0, hi, hz0, hz1, hz2⟩ := info_parts info5
  have HT : Hid (Tab w) := ht
  clear ht
  go_enter Tryd.func5, Tryd.ntmps5
  go_wp2_with fail
  refine (awake_any w HT.out).mono ?_
  rintro e w1 ⟨rfl, b1⟩
  have B1 : Hid (Below w.heap.size w w1) := b1
  have U1 : Hid (_) := buildV w1
  clear b1
  go_wp2_with ((with_reducible refine at_ops ?_); (refine wpList_build_is (vs := []) (by rfl) 23 rfl (by rfl) U1.out ?_); simp only [Act.put, List.setIfInBounds_toArray, List.set_cons_zero, List.set_cons_succ])
  refine (hencode_good 2 (zs 32) ⟨by omega, by omega⟩ (zs_len 32) (zs_bytes 32) w1 (HT.out.later B1.out)).mono ?_
  rintro e w2 ⟨g2, rfl, m2⟩
  have B2 : Hid (Below w.heap.size w w2) := below_then B1.out m2.below
  have X2 : Hid (BIn w2 (some ⟨g2, 0, none⟩) 64 (homeS 2 (zs 32))) := m2.read
  have U2 : Hid (_) := buildV w2
  clear m2 B1 U1
  go_wp2_with ((with_reducible refine at_ops ?_); (refine wpList_build_is (vs := []) (by rfl) 23 rfl (by rfl) U2.out ?_); simp only [Act.put, List.setIfInBounds_toArray, List.set_cons_zero, List.set_cons_succ])
  refine (hencode_bad 64 (zs 32) (by omega) w2).mono ?_
  rintro e w3 ⟨rfl, b3⟩
  have B3 : Hid (Below w.heap.size w w3) := below_then B2.out b3
  have X3 : Hid (BIn w3 (some ⟨g2, 0, none⟩) 64 (homeS 2 (zs 32))) := X2.out.later b3
  have U3 : Hid (_) := buildV w3
  clear b3 B2 X2 U2
  go_wp2_with ((with_reducible refine at_ops ?_); (refine wpList_build_is (vs := []) (by rfl) 23 rfl (by rfl) U3.out ?_); simp only [Act.put, List.setIfInBounds_toArray, List.set_cons_zero, List.set_cons_succ])
  refine (hencode_bad (-1) (zs 32) (by omega) w3).mono ?_
  rintro e w4 ⟨rfl, b4⟩
  have B4 : Hid (Below w.heap.size w w4) := below_then B3.out b4
  have X4 : Hid (BIn w4 (some ⟨g2, 0, none⟩) 64 (homeS 2 (zs 32))) := X3.out.later b4
  clear b4 B3 X3 U3
  go_wp2_with fail
  refine (hdecode_any (some ⟨g2, 0, none⟩) 64 64 _ 3 w4 X4.out (Nat.le_refl _) (HT.out.later B4.out)).mono ?_
  rintro e w5 ⟨rfl, b5⟩
  rw [hd3]
  have A5 : Hid (_) := allocV w5
  have S5 : Hid (_) := store_newV w5 (zs 32) (zs_len 32)
  obtain ⟨w6, hw6⟩ : ∃ x, x = w5.alloc (.cells (U8 (zs 32)).toArray 23) := ⟨_, rfl⟩
  rw [← hw6] at A5 S5
  have b6 : Below w4.heap.size w4 w6 := by rw [hw6]; exact below_then b5 (below_alloc _ _)
  have B6 : Hid (Below w.heap.size w w6) := below_then B4.out b6
  have X6 : Hid (BIn w6 (some ⟨g2, 0, none⟩) 64 (homeS 2 (zs 32))) := X4.out.later b6
  clear b5 b6 hw6 B4 X4
  have hmk := run_make (P := Tryd.prog) w6 24 5 i0 _ Tryd.underlying24 hi hz0 .i64 .i64 64 64 (by omega) (Int.le_refl _) (by rw [hz2]; omega) (by omega)
  rw [hz1] at hmk
  simp only [Value.cells] at hmk
  rw [show madeCells #[Value.int .u8 0] (Int.toNat 64 * 1) = (U8 (zs 64)).toArray from by kernel_rfl] at hmk
  obtain ⟨w7, hw7⟩ : ∃ x, x = w6.alloc (.cells (U8 (zs 64)).toArray 5) := ⟨_, rfl⟩
  rw [← hw7] at hmk
  have B7 : Hid (Below w.heap.size w w7) := by rw [hw7]; exact below_then B6.out (below_alloc _ _)
  have X7 : Hid (BIn w7 (some ⟨g2, 0, none⟩) 64 (homeS 2 (zs 32))) := by rw [hw7]; exact X6.out.later (below_alloc _ _)
  have Z7 : Hid (BIn w7 (some ⟨w6.heap.size, 0, none⟩) 64 (zs 64)) := by rw [hw7]; exact lit_in w6 (zs 64) 64 (zs_len 64) (zs_bytes 64)
  clear hw7 B6 X6
  go_wp2_with ((with_reducible refine at_ops ?_); (first | (refine wpList_alloc_is (by rfl) 23 rfl A5.out ?_) | (refine wpList_store_is (by rfl) 23 rfl rfl rfl S5.out ?_)); simp only [Act.put, List.setIfInBounds_toArray, List.set_cons_zero, List.set_cons_succ])
  clear hmk A5 S5
  refine (hdecode_any (some ⟨w6.heap.size, 0, none⟩) 64 64 _ 2 w7 Z7.out (Nat.le_refl _) (HT.out.later B7.out)).mono ?_
  rintro e w8 ⟨rfl, b8⟩
  rw [hdz]
  have A8 : Hid (_) := allocV w8
  have S8 : Hid (_) := store_newV w8 (zs 32) (zs_len 32)
  obtain ⟨w9, hw9⟩ : ∃ x, x = w8.alloc (.cells (U8 (zs 32)).toArray 23) := ⟨_, rfl⟩
  rw [← hw9] at A8 S8
  have b9 : Below w7.heap.size w7 w9 := by rw [hw9]; exact below_then b8 (below_alloc _ _)
  have B9 : Hid (Below w.heap.size w w9) := below_then B7.out b9
  have X9 : Hid (BIn w9 (some ⟨g2, 0, none⟩) 64 (homeS 2 (zs 32))) := X7.out.later b9
  clear b8 b9 hw9 B7 X7
  go_wp2_with ((with_reducible refine at_ops ?_); (first | (refine wpList_alloc_is (by rfl) 23 rfl A8.out ?_) | (refine wpList_store_is (by rfl) 23 rfl rfl rfl S8.out ?_)); simp only [Act.put, List.setIfInBounds_toArray, List.set_cons_zero, List.set_cons_succ])
  clear A8 S8
  refine (hdecode_any (some ⟨g2, 0, none⟩) 63 64 _ 2 w9 (X9.out.take 63 (by omega)) (by omega) (HT.out.later B9.out)).mono ?_
  rintro e w10 ⟨rfl, b10⟩
  rw [hd63]
  have A10 : Hid (_) := allocV w10
  have S10 : Hid (_) := store_newV w10 (zs 32) (zs_len 32)
  obtain ⟨w11, hw11⟩ : ∃ x, x = w10.alloc (.cells (U8 (zs 32)).toArray 23) := ⟨_, rfl⟩
  rw [← hw11] at A10 S10
  have b11 : Below w9.heap.size w9 w11 := by rw [hw11]; exact below_then b10 (below_alloc _ _)
  have B11 : Hid (Below w.heap.size w w11) := below_then B9.out b11
  have X11 : Hid (BIn w11 (some ⟨g2, 0, none⟩) 64 (homeS 2 (zs 32))) := X9.out.later b11
  clear b10 b11 hw11 B9 X9
  go_wp2_with ((with_reducible refine at_ops ?_); (first | (refine wpList_alloc_is (by rfl) 23 rfl A10.out ?_) | (refine wpList_store_is (by rfl) 23 rfl rfl rfl S10.out ?_)); simp only [Act.put, List.setIfInBounds_toArray, List.set_cons_zero, List.set_cons_succ])
  clear A10 S10
  refine (hdecode_any (some ⟨g2, 0, none⟩) 63 64 _ 64 w11 (X11.out.take 63 (by omega)) (by omega) (HT.out.later B11.out)).mono ?_
  rintro e w12 ⟨rfl, b12⟩
  rw [hd64]
  have A12 : Hid (_) := allocV w12
  have S12 : Hid (_) := store_newV w12 (zs 32) (zs_len 32)
  obtain ⟨w13, hw13⟩ : ∃ x, x = w12.alloc (.cells (U8 (zs 32)).toArray 23) := ⟨_, rfl⟩
  rw [← hw13] at A12 S12
  have b13 : Below w11.heap.size w11 w13 := by rw [hw13]; exact below_then b12 (below_alloc _ _)
  have B13 : Hid (Below w.heap.size w w13) := below_then B11.out b13
  have X13 : Hid (BIn w13 (some ⟨g2, 0, none⟩) 64 (homeS 2 (zs 32))) := X11.out.later b13
  clear b12 b13 hw13 B11 X11
  go_wp2_with ((with_reducible refine at_ops ?_); (first | (refine wpList_alloc_is (by rfl) 23 rfl A12.out ?_) | (refine wpList_store_is (by rfl) 23 rfl rfl rfl S12.out ?_)); simp only [Act.put, List.setIfInBounds_toArray, List.set_cons_zero, List.set_cons_succ])
  clear A12 S12 X13
  refine (small_any w13).mono ?_
  rintro e w14 ⟨rfl, b14⟩
  have B14 : Hid (Below w.heap.size w w14) := below_then B13.out b14
  clear b14 B13
  go_wp2_with fail
  refine (hnew_good sm sm_may w14 (HT.out.later B14.out)).mono ?_
  rintro e w15 ⟨p, rfl, d15, b15⟩
  have B15 : Hid (Below w.heap.size w w15) := below_then B14.out b15
  have D15 : Hid (Dsk w15 (fun k => w.heap.size ≤ k) p 6 (newS sm) []) := d15.mono (fun k _ hk => Nat.le_trans B14.out.size hk)
  clear b15 d15 B14
  go_wp2_with fail
  refine (small_any w15).mono ?_
  rintro e w16 ⟨rfl, b16⟩
  have B16 : Hid (Below w.heap.size w w16) := below_then B15.out b16
  have D16 : Hid (Dsk w16 (fun k => w.heap.size ≤ k) p 6 (newS sm) []) := D15.out.later b16
  clear b16 B15 D15
  go_wp2_with fail
  refine (small_any w16).mono ?_
  rintro e w17 ⟨rfl, b17⟩
  have B17 : Hid (Below w.heap.size w w17) := below_then B16.out b17
  have D17 : Hid (Dsk w17 (fun k => w.heap.size ≤ k) p 6 (newS sm) []) := D16.out.later b17
  clear b17 B16 D16
  have A17 : Hid (_) := alloc23 w17
  obtain ⟨w18, hw18⟩ : ∃ x, x = w17.alloc (.cells (ccells sup0).toArray 39) := ⟨_, rfl⟩
  have sz18 : w18.heap.size = w17.heap.size + 1 := by rw [hw18]; simp
  have A18 : Hid (_) := alloc23 w18
  obtain ⟨w19, hw19⟩ : ∃ x, x = w18.alloc (.cells (ccells sup0).toArray 39) := ⟨_, rfl⟩
  have C18 : CAt w19 w17.heap.size sup0 := by rw [hw19, hw18]; exact LAt.later (LAt.new 39 w17 _) (below_alloc _ _)
  have S18 : Hid (_) := LAt.store (ds := ccells sm) C18 size23 rfl (ccells_all sm)
  have F18 : CAt (w19.setRow w17.heap.size (ccells sm).toArray) w17.heap.size sm := LAt.stored C18 _
  have C19 : CAt w19 (w17.heap.size + 1) sup0 := by rw [← sz18, hw19]; exact LAt.new 39 w18 _
  have E19 : CAt (w19.setRow w17.heap.size (ccells sm).toArray) (w17.heap.size + 1) sup0 := LAt.other C19 _ (by omega)
  have S19 : Hid (_) := LAt.store (ds := ccells sm) E19 size23 rfl (ccells_all sm)
  have B19 : Below w17.heap.size w17 w19 := by rw [hw19, hw18]; exact below_then (below_alloc _ _) (below_alloc _ _)
  obtain ⟨w20, hw20⟩ : ∃ x, x = (w19.setRow w17.heap.size (ccells sm).toArray).setRow (w17.heap.size + 1) (ccells sm).toArray := ⟨_, rfl⟩
  have B20 : Below w17.heap.size w17 w20 := by rw [hw20]; exact below_setRow (below_setRow B19 (Nat.le_refl _) _) (by omega) _
  have L20 : CAt w20 w17.heap.size sm := by rw [hw20]; exact LAt.other F18 _ (by omega)
  have M20 : CAt w20 (w17.heap.size + 1) sm := by rw [hw20]; exact LAt.stored E19 _
  have f1 := frozen_of_row w20 w17.heap.size 1 _ 39 L20
  obtain ⟨w21, hw21⟩ : ∃ x, x = w20.setCell ⟨w17.heap.size, 1, none⟩ (.int .i64 4) := ⟨_, rfl⟩
  have L21 : CAt w21 w17.heap.size smL := by rw [hw21]; exact LAt.set L20 1 _
  have M21 : CAt w21 (w17.heap.size + 1) sm := by rw [hw21]; exact LAt.setO M20 _ _ (by omega)
  have f2 := frozen_of_row w21 (w17.heap.size + 1) 2 _ 39 M21
  have c1 := CAt.c1 L20
  have c2 := CAt.c2 M21
  obtain ⟨w22, hw22⟩ : ∃ x, x = w21.setCell ⟨w17.heap.size + 1, 2, none⟩ (.int .i64 3) := ⟨_, rfl⟩
  have L22 : Hid (CAt w22 w17.heap.size smL) := by rw [hw22]; exact LAt.setO L21 _ _ (by omega)
  have M22 : Hid (CAt w22 (w17.heap.size + 1) smM) := by rw [hw22]; exact LAt.set M21 2 _
  have b22 : Below w17.heap.size w17 w22 := by rw [hw22, hw21]; exact (B20.setCell (by exact Nat.le_refl _) _).setCell (by exact Nat.le_succ _) _
  have B22 : Hid (Below w.heap.size w w22) := below_then B17.out b22
  have D22 : Hid (Dsk w22 (fun k => w.heap.size ≤ k) p 6 (newS sm) []) := D17.out.later b22
  rw [sz18] at A18
  rw [← hw18] at A17
  rw [← hw19] at A18
  rw [← hw20] at S19
  have e21 := hw21.symm
  have e22 := hw22.symm
  clear hw18 hw19 hw20 hw21 hw22 sz18 C18 F18 C19 E19 B19 B20 L20 M20 L21 M21 b22 B17 D17
  go_wp2_with ((with_reducible refine at_ops ?_); (first | (refine wpList_alloc_is (by rfl) 39 rfl A17.out ?_) | (refine wpList_alloc_is (by rfl) 39 rfl A18.out ?_) | (refine wpList_store_is (by rfl) 39 rfl rfl rfl S18.out ?_) | (refine wpList_store_is (by rfl) 39 rfl rfl rfl S19.out ?_)); simp only [Act.put, List.setIfInBounds_toArray, List.set_cons_zero, List.set_cons_succ])
  clear f1 f2 c1 c2 e21 e22 A17 A18 S18 S19
  refine (small_any w22).mono ?_
  rintro e w23 ⟨rfl, b23⟩
  have B23 : Hid (Below w.heap.size w w23) := below_then B22.out b23
  have D23 : Hid (Dsk w23 (fun k => w.heap.size ≤ k) p 6 (newS sm) []) := D22.out.later b23
  have L23 : Hid (CAt w23 w17.heap.size smL) := LAt.later L22.out b23
  have M23 : Hid (CAt w23 (w17.heap.size + 1) smM) := LAt.later M22.out b23
  clear b23 B22 D22 L22 M22
  go_wp2_with fail
  refine (hall_any sm D23.out (HT.out.later B23.out)).mono ?_
  rintro e w24 ⟨q24, c24, rfl, o24, b24⟩
  rw [sm_all] at o24 ⊢
  have B24 : Hid (Below w.heap.size w w24) := below_then B23.out b24
  have D24 : Hid (Dsk w24 (fun k => w.heap.size ≤ k) p 6 (newS sm) []) := D23.out.later b24
  have L24 : Hid (CAt w24 w17.heap.size smL) := LAt.later L23.out b24
  have M24 : Hid (CAt w24 (w17.heap.size + 1) smM) := LAt.later M23.out b24
  have V24 : Hid (VIn w24 q24 2 [zs 32, zs 32]) := VIn.of_own o24 (by intro l hl; simp at hl; rw [hl]; exact zs_len 32) rfl
  have G24 : Hid (_) := CAt.load23 M24.out
  clear b24 o24 B23 D23 L23 M23
  go_wp2_with ((with_reducible refine at_ops ?_); (refine wpList_load_is (by rfl) 39 rfl rfl G24.out ?_); simp only [Act.put, List.setIfInBounds_toArray, List.set_cons_zero, List.set_cons_succ])
  clear G24
  refine (hload_nil smM 9 w24).mono ?_
  rintro e w25 ⟨rfl, b25⟩
  have A25 : Hid (_) := allocV w25
  have S25 : Hid (_) := store_newV w25 (zs 32) (zs_len 32)
  obtain ⟨w26, hw26⟩ : ∃ x, x = w25.alloc (.cells (U8 (zs 32)).toArray 23) := ⟨_, rfl⟩
  rw [← hw26] at A25 S25
  have b26 : Below w24.heap.size w24 w26 := by rw [hw26]; exact below_then b25 (below_alloc _ _)
  have B26 : Hid (Below w.heap.size w w26) := below_then B24.out b26
  have D26 : Hid (Dsk w26 (fun k => w.heap.size ≤ k) p 6 (newS sm) []) := D24.out.later b26
  have L26 : Hid (CAt w26 w17.heap.size smL) := LAt.later L24.out b26
  have M26 : Hid (CAt w26 (w17.heap.size + 1) smM) := LAt.later M24.out b26
  have V26 : Hid (VIn w26 q24 2 [zs 32, zs 32]) := V24.out.later b26
  clear b25 b26 hw26 B24 D24 L24 M24 V24
  go_wp2_with ((with_reducible refine at_ops ?_); (first | (refine wpList_alloc_is (by rfl) 23 rfl A25.out ?_) | (refine wpList_store_is (by rfl) 23 rfl rfl rfl S25.out ?_)); simp only [Act.put, List.setIfInBounds_toArray, List.set_cons_zero, List.set_cons_succ])
  clear A25 S25
  refine (small_any w26).mono ?_
  rintro e w27 ⟨rfl, b27⟩
  have B27 : Hid (Below w.heap.size w w27) := below_then B26.out b27
  have D27 : Hid (Dsk w27 (fun k => w.heap.size ≤ k) p 6 (newS sm) []) := D26.out.later b27
  have L27 : Hid (CAt w27 w17.heap.size smL) := LAt.later L26.out b27
  have M27 : Hid (CAt w27 (w17.heap.size + 1) smM) := LAt.later M26.out b27
  have V27 : Hid (VIn w27 q24 2 [zs 32, zs 32]) := V26.out.later b27
  clear b27 B26 D26 L26 M26 V26
  go_wp2_with fail
  refine (hall_nil sm w27).mono ?_
  rintro e w28 ⟨rfl, b28⟩
  have B28 : Hid (Below w.heap.size w w28) := below_then B27.out b28
  have D28 : Hid (Dsk w28 (fun k => w.heap.size ≤ k) p 6 (newS sm) []) := D27.out.later b28
  have L28 : Hid (CAt w28 w17.heap.size smL) := LAt.later L27.out b28
  have M28 : Hid (CAt w28 (w17.heap.size + 1) smM) := LAt.later M27.out b28
  have V28 : Hid (VIn w28 q24 2 [zs 32, zs 32]) := V27.out.later b28
  clear b28 B27 D27 L27 M27 V27
  have G28 : Hid (_) := CAt.load23 M28.out
  go_wp2_with ((with_reducible refine at_ops ?_); (refine wpList_load_is (by rfl) 39 rfl rfl G28.out ?_); simp only [Act.put, List.setIfInBounds_toArray, List.set_cons_zero, List.set_cons_succ])
  clear G28
  refine (hnew_bad smM smM_not w28).mono ?_
  rintro e w29 ⟨rfl, b29⟩
  have B29 : Hid (Below w.heap.size w w29) := below_then B28.out b29
  have D29 : Hid (Dsk w29 (fun k => w.heap.size ≤ k) p 6 (newS sm) []) := D28.out.later b29
  have L29 : Hid (CAt w29 w17.heap.size smL) := LAt.later L28.out b29
  have M29 : Hid (CAt w29 (w17.heap.size + 1) smM) := LAt.later M28.out b29
  have V29 : Hid (VIn w29 q24 2 [zs 32, zs 32]) := V28.out.later b29
  clear b29 B28 D28 L28 M28 V28
  have hmk := run_make (P := Tryd.prog) w29 41 23 iv _ Tryd.underlying41 hiv hzv0 .i64 .i64 2 2 (by omega) (Int.le_refl _) (by rw [hzv2]; omega) (by omega)
  rw [hzv1] at hmk
  simp only [Value.cells] at hmk
  rw [made_rep 32 _ (by omega)] at hmk
  obtain ⟨w30, hw30⟩ : ∃ x, x = w29.alloc (.cells (List.replicate (Int.toNat 2 * 32) (Value.int .u8 0)).toArray 23) := ⟨_, rfl⟩
  rw [← hw30] at hmk
  have b30 : Below w29.heap.size w29 w30 := by rw [hw30]; exact below_alloc _ _
  have Z30 : Hid (VIn w30 (some ⟨w29.heap.size, 0, none⟩) 2 [zs 32, zs 32]) := by
    rw [hw30]
    exact VIn.of_LAt (LAt.new 23 w29 (VC [zs 32, zs 32])) (by intro l hl; simp at hl; rw [hl]; exact zs_len 32) rfl
  clear hw30
  have B30 : Hid (Below w.heap.size w w30) := below_then B29.out b30
  have D30 : Hid (Dsk w30 (fun k => w.heap.size ≤ k) p 6 (newS sm) []) := D29.out.later b30
  have L30 : Hid (CAt w30 w17.heap.size smL) := LAt.later L29.out b30
  have M30 : Hid (CAt w30 (w17.heap.size + 1) smM) := LAt.later M29.out b30
  have V30 : Hid (VIn w30 q24 2 [zs 32, zs 32]) := V29.out.later b30
  clear b30 B29 D29 L29 M29 V29
  go_wp2_with fail
  clear hmk
  refine (same_vals q24 _ 2 2 c24 2 _ _ w30 V30.out Z30.out (by omega)).mono ?_
  rintro e w31 ⟨rfl, b31⟩
  rw [decide_eq_true rfl]
  clear Z30
  have B31 : Hid (Below w.heap.size w w31) := below_then B30.out b31
  have D31 : Hid (Dsk w31 (fun k => w.heap.size ≤ k) p 6 (newS sm) []) := D30.out.later b31
  have L31 : Hid (CAt w31 w17.heap.size smL) := LAt.later L30.out b31
  have M31 : Hid (CAt w31 (w17.heap.size + 1) smM) := LAt.later M30.out b31
  have V31 : Hid (VIn w31 q24 2 [zs 32, zs 32]) := V30.out.later b31
  clear b31 B30 D30 L30 M30 V30
  clear V31
  go_wp2_with fail
  refine (small_any w31).mono ?_
  rintro e w32 ⟨rfl, b32⟩
  have B32 : Hid (Below w.heap.size w w32) := below_then B31.out b32
  have D32 : Hid (Dsk w32 (fun k => w.heap.size ≤ k) p 6 (newS sm) []) := D31.out.later b32
  have L32 : Hid (CAt w32 w17.heap.size smL) := LAt.later L31.out b32
  have M32 : Hid (CAt w32 (w17.heap.size + 1) smM) := LAt.later M31.out b32
  clear b32 B31 D31 L31 M31
  have U32 : Hid (_) := buildV w32
  go_wp2_with ((with_reducible refine at_ops ?_); (refine wpList_build_is (vs := []) (by rfl) 23 rfl (by rfl) U32.out ?_); simp only [Act.put, List.setIfInBounds_toArray, List.set_cons_zero, List.set_cons_succ])
  clear U32
  refine (hsave_no sm 2 (zs 32) D32.out (by decide)).mono ?_
  rintro e w33 ⟨rfl, b33⟩
  rw [sm_rb2]
  have B33 : Hid (Below w.heap.size w w33) := below_then B32.out b33
  have D33 : Hid (Dsk w33 (fun k => w.heap.size ≤ k) p 6 (newS sm) []) := D32.out.later b33
  have L33 : Hid (CAt w33 w17.heap.size smL) := LAt.later L32.out b33
  have M33 : Hid (CAt w33 (w17.heap.size + 1) smM) := LAt.later M32.out b33
  clear b33 B32 D32 L32 M32
  have U33 : Hid (_) := buildV w33
  have G33 : Hid (_) := CAt.load23 L33.out
  go_wp2_with ((with_reducible refine at_ops ?_); (first | (refine wpList_load_is (by rfl) 39 rfl rfl G33.out ?_) | (refine wpList_build_is (vs := []) (by rfl) 23 rfl (by rfl) U33.out ?_)); simp only [Act.put, List.setIfInBounds_toArray, List.set_cons_zero, List.set_cons_succ])
  clear U33 G33
  refine (hsave_no smL 9 (zs 32) D33.out (by decide)).mono ?_
  rintro e w34 ⟨rfl, b34⟩
  rw [sm_rbL]
  have B34 : Hid (Below w.heap.size w w34) := below_then B33.out b34
  have D34 : Hid (Dsk w34 (fun k => w.heap.size ≤ k) p 6 (newS sm) []) := D33.out.later b34
  have L34 : Hid (CAt w34 w17.heap.size smL) := LAt.later L33.out b34
  have M34 : Hid (CAt w34 (w17.heap.size + 1) smM) := LAt.later M33.out b34
  clear b34 B33 D33 L33 M33
  have U34 : Hid (_) := buildV w34
  have G34 : Hid (_) := CAt.load23 M34.out
  go_wp2_with ((with_reducible refine at_ops ?_); (first | (refine wpList_load_is (by rfl) 39 rfl rfl G34.out ?_) | (refine wpList_build_is (vs := []) (by rfl) 23 rfl (by rfl) U34.out ?_)); simp only [Act.put, List.setIfInBounds_toArray, List.set_cons_zero, List.set_cons_succ])
  clear U34 G34
  refine (hsave_no smM 9 (zs 32) D34.out (by decide)).mono ?_
  rintro e w35 ⟨rfl, b35⟩
  rw [sm_rbM]
  have B35 : Hid (Below w.heap.size w w35) := below_then B34.out b35
  have D35 : Hid (Dsk w35 (fun k => w.heap.size ≤ k) p 6 (newS sm) []) := D34.out.later b35
  have L35 : Hid (CAt w35 w17.heap.size smL) := LAt.later L34.out b35
  have M35 : Hid (CAt w35 (w17.heap.size + 1) smM) := LAt.later M34.out b35
  clear b35 B34 D34 L34 M34
  have U35 : Hid (_) := buildV w35
  have G35 : Hid (_) := CAt.load23 M35.out
  go_wp2_with ((with_reducible refine at_ops ?_); (first | (refine wpList_load_is (by rfl) 39 rfl rfl G35.out ?_) | (refine wpList_build_is (vs := []) (by rfl) 23 rfl (by rfl) U35.out ?_)); simp only [Act.put, List.setIfInBounds_toArray, List.set_cons_zero, List.set_cons_succ])
  clear U35 G35
  refine (hsave_nil smM 9 (zs 32) w35).mono ?_
  rintro e w36 ⟨rfl, b36⟩
  have B36 : Hid (Below w.heap.size w w36) := below_then B35.out b36
  have D36 : Hid (Dsk w36 (fun k => w.heap.size ≤ k) p 6 (newS sm) []) := D35.out.later b36
  have L36 : Hid (CAt w36 w17.heap.size smL) := LAt.later L35.out b36
  have M36 : Hid (CAt w36 (w17.heap.size + 1) smM) := LAt.later M35.out b36
  clear b36 B35 D35 L35 M35
  go_wp2_with fail
  refine (waiting_any D36.out (by simp)).mono ?_
  rintro e w37 ⟨g37, vs37, rfl, -, b37⟩
  have B37 : Hid (Below w.heap.size w w37) := below_then B36.out b37
  clear b37 B36 D36 L36 M36
  go_wp2_with fail
  go_ret
  exact ⟨rfl, B37.out⟩
end Go.Proofs.YtpenddnmmfpdjaaDoor
