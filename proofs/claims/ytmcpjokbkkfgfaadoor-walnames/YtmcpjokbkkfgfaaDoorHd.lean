/-
  WalNames walked.
-/
import Derived.Test.YtmcpjokbkkfgfaaDoorHc
namespace Go.Proofs.YtmcpjokbkkfgfaaDoor
open Go.RowKit


def na0 : Lg := opnG sm9 10 1
def na1 : Lg := imgG na0 0
def na2 : Lg := imgG na1 2
def na3 : Lg := comG na2
def na4 : Lg := comG na3
def na5 : Lg := mkG na4 13
def na6 : Lg := frG na5
def nb0 : Lg := opnG sm9 4611686018427387904 1
theorem na0_ok : na0.Ok := opnG_ok (n := 8) (by decide) (by decide) (by decide)
theorem na0_i : imgS na0 0 = 0 := by decide
theorem na1_ok : na1.Ok := imgG_ok na0_ok na0_i
theorem na1_i : imgS na1 2 = 0 := by decide
theorem na2_ok : na2.Ok := imgG_ok na1_ok na1_i
theorem na2_a : imgS na2 1 = 60 := by decide
theorem na2_b : imgS na2 2 = 60 := by decide
theorem na2_m : moreS na2 = 0 := by decide
theorem na3_ok : na3.Ok := comG_ok na2_ok na2_m
theorem na3_m : moreS na3 = 0 := by decide
theorem na4_ok : na4.Ok := comG_ok na3_ok na3_m
theorem na4_m : moreS na4 = 90 := by decide
theorem na4_i : imgS na4 0 = 90 := by decide
theorem na4_9 : Out na4 9 := by decide
theorem na4_15 : Out na4 15 := by decide
theorem na4_13 : ¬ Out na4 13 := by decide
theorem na5_ok : na5.Ok := mkG_ok na4_ok na4_13
theorem nb0_m : moreS nb0 = 31 := by decide
def nal : List R.Rec := [imgR na0 0 (v9 1), imgR na1 2 (v9 2), comR na2, comR na3]

set_option maxHeartbeats 20000000 in
set_option maxRecDepth 100000 in
theorem walNames_any (w : World) (ht : Tab w) : Calls Tryd.prog 3 #[] w fun e w' => e = .returned (.bool true) ∧ Below w.heap.size w w' := by
  have HT : Hid (Tab w) := ht
  have B0 : Hid (Below w.heap.size w w) := Below.refl _ _
  clear ht
  go_enter Tryd.func3, Tryd.ntmps3
  dsimp only [List.append]
  go_wp2_with fail
  refine (fixed_any w HT.out).mono ?_
  rintro e w1 ⟨rfl, b0⟩
  have B1 : Hid (Below w.heap.size w w1) := below_then B0.out b0
  clear B0
  clear b0
  go_wp2_with fail
  refine (small_any w1).mono ?_
  rintro e w2 ⟨rfl, b0⟩
  have B2 : Hid (Below w.heap.size w w2) := below_then B1.out b0
  clear B1
  clear b0
  go_wp2_with fail
  have hbase : w.heap.size ≤ w2.heap.size := B2.out.size
  refine (opened_ok sm9 8 10 1 (by decide) (by decide) (by decide) (by decide) (by decide) w2).mono ?_
  rintro e w3 ⟨L, p, rfl, l0, b0⟩
  have B3 : Hid (Below w.heap.size w w3) := below_then B2.out b0
  clear B2
  have Ga3 : Hid (LB w3 w2.heap.size L p (List.replicate (64 * 8) 0) [] na0) := l0
  have H0 : Hid (Holds na0 [] (List.replicate (64 * 8) 0) 10 []) := Holds.start _ _ _ _ _
  have N0 : Hid (([] : List Wr).length = 0) := rfl
  clear b0 l0
  generalize (List.replicate (64 * 8) (0 : Int)) = d0 at *
  have U3 : Hid (_) := build_v w3 1
  go_wp2_with ((with_reducible refine at_ops ?_); (refine wpList_build_is (vs := [(0, .int .u8 1)]) (by rfl) 35 rfl (by rfl) U3.out ?_); simp only [Act.put, List.setIfInBounds_toArray, List.set_cons_zero, List.set_cons_succ])
  refine (image_B Ga3.out (by rw [N0.out]; decide) (HT.out.later B3.out) 0 (v9 1) (v9_len 1) (v9_bytes (by omega)) na0_i).mono ?_
  rintro e w4 ⟨rfl, l0, t0⟩
  rw [show na0.fin = 10 from rfl]
  have B4 : Hid (Below w.heap.size w w4) := B3.out.trans (t0.low.mono hbase)
  clear Ga3
  clear B3
  have H1 : Hid (Holds na1 ([] ++ [⟨(secN na0 na0.fin).toNat, R.encS (imgR na0 0 (v9 1))⟩]) d0 10 [imgR na0 0 (v9 1)]) := Holds.img H0.out na0_ok na0_i (v9_len 1) (v9_bytes (by omega))
  have Ga4 : Hid (LB w4 w2.heap.size L p d0 ([] ++ [⟨(secN na0 na0.fin).toNat, R.encS (imgR na0 0 (v9 1))⟩]) na1) := l0
  have N1 : Hid ((([] ++ [⟨(secN na0 na0.fin).toNat, R.encS (imgR na0 0 (v9 1))⟩]) : List Wr).length = 1) := by rw [List.length_append, N0.out]; rfl
  clear l0 t0 H0 N0
  generalize (([] ++ [⟨(secN na0 na0.fin).toNat, R.encS (imgR na0 0 (v9 1))⟩]) : List Wr) = ws1 at *
  clear U3
  have U4 : Hid (_) := build_v w4 2
  go_wp2_with ((with_reducible refine at_ops ?_); (refine wpList_build_is (vs := [(0, .int .u8 2)]) (by rfl) 35 rfl (by rfl) U4.out ?_); simp only [Act.put, List.setIfInBounds_toArray, List.set_cons_zero, List.set_cons_succ])
  refine (image_B Ga4.out (by rw [N1.out]; decide) (HT.out.later B4.out) 2 (v9 2) (v9_len 2) (v9_bytes (by omega)) na1_i).mono ?_
  rintro e w5 ⟨rfl, l0, t0⟩
  rw [show na1.fin = 11 from rfl]
  have B5 : Hid (Below w.heap.size w w5) := B4.out.trans (t0.low.mono hbase)
  clear Ga4
  clear B4
  have H2 : Hid (Holds na2 (ws1 ++ [⟨(secN na1 na1.fin).toNat, R.encS (imgR na1 2 (v9 2))⟩]) d0 10 [imgR na0 0 (v9 1), imgR na1 2 (v9 2)]) := Holds.img H1.out na1_ok na1_i (v9_len 2) (v9_bytes (by omega))
  have Ga5 : Hid (LB w5 w2.heap.size L p d0 (ws1 ++ [⟨(secN na1 na1.fin).toNat, R.encS (imgR na1 2 (v9 2))⟩]) na2) := l0
  have N2 : Hid (((ws1 ++ [⟨(secN na1 na1.fin).toNat, R.encS (imgR na1 2 (v9 2))⟩]) : List Wr).length = 2) := by rw [List.length_append, N1.out]; rfl
  clear l0 t0 H1 N1
  generalize ((ws1 ++ [⟨(secN na1 na1.fin).toNat, R.encS (imgR na1 2 (v9 2))⟩]) : List Wr) = ws2 at *
  clear U4
  have U5 : Hid (_) := build_v w5 3
  go_wp2_with ((with_reducible refine at_ops ?_); (refine wpList_build_is (vs := [(0, .int .u8 3)]) (by rfl) 35 rfl (by rfl) U5.out ?_); simp only [Act.put, List.setIfInBounds_toArray, List.set_cons_zero, List.set_cons_succ])
  refine (image_no Ga5.out.log Ga5.out.ok 1 (v9 3) (by rw [na2_a]; decide)).mono ?_
  rintro e w6 ⟨rfl, b0⟩
  rw [na2_a]
  have B6 : Hid (Below w.heap.size w w6) := below_then B5.out b0
  have Ga6 : Hid (LB w6 w2.heap.size L p d0 ws2 na2) := LD.later Ga5.out b0
  clear Ga5
  clear B5
  clear b0 U5
  have U6 : Hid (_) := build_v w6 3
  go_wp2_with ((with_reducible refine at_ops ?_); (refine wpList_build_is (vs := [(0, .int .u8 3)]) (by rfl) 35 rfl (by rfl) U6.out ?_); simp only [Act.put, List.setIfInBounds_toArray, List.set_cons_zero, List.set_cons_succ])
  refine (image_no Ga6.out.log Ga6.out.ok 2 (v9 3) (by rw [na2_b]; decide)).mono ?_
  rintro e w7 ⟨rfl, b0⟩
  rw [na2_b]
  have B7 : Hid (Below w.heap.size w w7) := below_then B6.out b0
  have Ga7 : Hid (LB w7 w2.heap.size L p d0 ws2 na2) := LD.later Ga6.out b0
  clear Ga6
  clear B6
  clear b0 U6
  go_wp2_with fail
  refine (commit_B Ga7.out (by rw [N2.out]; decide) (HT.out.later B7.out) na2_m).mono ?_
  rintro e w8 ⟨rfl, l0, t0⟩
  rw [show na2.fin = 12 from rfl]
  have B8 : Hid (Below w.heap.size w w8) := B7.out.trans (t0.low.mono hbase)
  clear Ga7
  clear B7
  have H3 : Hid (Holds na3 (ws2 ++ [⟨(secN na2 na2.fin).toNat, R.encS (comR na2)⟩]) d0 10 [imgR na0 0 (v9 1), imgR na1 2 (v9 2), comR na2]) := Holds.com H2.out na2_ok na2_m
  have Ga8 : Hid (LB w8 w2.heap.size L p d0 (ws2 ++ [⟨(secN na2 na2.fin).toNat, R.encS (comR na2)⟩]) na3) := l0
  have N3 : Hid (((ws2 ++ [⟨(secN na2 na2.fin).toNat, R.encS (comR na2)⟩]) : List Wr).length = 3) := by rw [List.length_append, N2.out]; rfl
  clear l0 t0 H2 N2
  generalize ((ws2 ++ [⟨(secN na2 na2.fin).toNat, R.encS (comR na2)⟩]) : List Wr) = ws3 at *
  go_wp2_with fail
  refine (read_at Ga8.out.dsk 4 (by decide) (by decide)).mono ?_
  rintro e w9 ⟨q, c, rfl, x0, hc, b0⟩
  have X9 : Hid (BIn w9 q 64 (R.encS (comR na2))) := by
    have e1 := (H3.out.at_ 2 (comR na2) rfl (by decide)).1
    have e2 : (secN na3 (10 + ((2 : Nat) : Int))).toNat = 4 := by decide
    rw [e2] at e1
    rw [← e1]; exact x0
  have B9 : Hid (Below w.heap.size w w9) := below_then B8.out b0
  have Ga9 : Hid (LB w9 w2.heap.size L p d0 ws3 na3) := LD.later Ga8.out b0
  clear Ga8
  clear B8
  clear b0 x0
  go_wp2_with fail
  refine (R.decode_any q 64 c _ w9 X9.out hc (HT.out.later B9.out).half).mono ?_
  rintro e w10 ⟨rfl, b0⟩
  rw [R.decS_encS (comR na2) (comR_wf na2_ok) (comR_may na2_ok)]
  have B10 : Hid (Below w.heap.size w w10) := below_then B9.out b0
  have Ga10 : Hid (LB w10 w2.heap.size L p d0 ws3 na3) := LD.later Ga9.out b0
  clear Ga9
  clear B9
  clear b0 X9 hc
  have A10 : Hid (_) := R.alloc31 w10
  have T10 : Hid (_) := R.store_new R.size31 w10 (comR na2) (R.zs_len 32)
  obtain ⟨w11, hw11⟩ : ∃ x, x = w10.alloc (.cells (R.rcells (comR na2)).toArray 41) := ⟨_, rfl⟩
  rw [← hw11] at T10
  have b6 : Below w10.heap.size w10 w11 := by rw [hw11]; exact below_alloc w10 _
  have X11 : Hid (R.RAt 41 w11 w10.heap.size (comR na2)) := by rw [hw11]; exact R.RAt.new 41 w10 _
  have B11 : Hid (Below w.heap.size w w11) := below_then B10.out b6
  have Ga11 : Hid (LB w11 w2.heap.size L p d0 ws3 na3) := LD.later Ga10.out b6
  clear Ga10
  clear B10
  clear hw11 b6
  have L11 : Hid (_) := R.RAt.load31 X11.out (R.zs_len 32)
  have V11 : Hid (_) := build_rec3 w11 12 2
  have E11 : Hid ((binOp .neq 41 (.agg (R.rcells (comR na2)).toArray) (.agg (R.rcells ⟨2, 12, 0, R.zs 32, 2⟩).toArray)).run Tryd.prog w11 = .ok (.bool false) w11) := by
    have := R.neq31 w11 (comR na2) ⟨2, 12, 0, R.zs 32, 2⟩ (R.zs_len 32) (R.zs_len 32)
    rwa [show R.recB (comR na2) ⟨2, 12, 0, R.zs 32, 2⟩ = true from R.recB_same _] at this
  go_wp2_with ((with_reducible refine at_ops ?_); (first | (refine wpList_alloc_is (by rfl) 41 rfl A10.out ?_) | (refine wpList_store_is (by rfl) 41 rfl rfl rfl T10.out ?_) | (refine wpList_load_is (by rfl) 41 rfl rfl L11.out ?_) | (refine wpList_build_is (vs := [(0, .int .i64 2), (1, .int .u64 12), (4, .int .i64 2)]) (by rfl) 41 rfl (by rfl) V11.out ?_) | (refine wpList_neq_is (by rfl) 41 rfl rfl rfl R.eqg31 E11.out ?_)); simp only [Act.put, List.setIfInBounds_toArray, List.set_cons_zero, List.set_cons_succ])
  clear L11 V11 E11 X11 A10 T10
  refine (commit_B Ga11.out (by rw [N3.out]; decide) (HT.out.later B11.out) na3_m).mono ?_
  rintro e w12 ⟨rfl, l0, t0⟩
  rw [show na3.fin = 13 from rfl]
  have B12 : Hid (Below w.heap.size w w12) := B11.out.trans (t0.low.mono hbase)
  clear Ga11
  clear B11
  have H4 : Hid (Holds na4 (ws3 ++ [⟨(secN na3 na3.fin).toNat, R.encS (comR na3)⟩]) d0 10 nal) := Holds.com H3.out na3_ok na3_m
  have Ga12 : Hid (LB w12 w2.heap.size L p d0 (ws3 ++ [⟨(secN na3 na3.fin).toNat, R.encS (comR na3)⟩]) na4) := l0
  have N4 : Hid (((ws3 ++ [⟨(secN na3 na3.fin).toNat, R.encS (comR na3)⟩]) : List Wr).length = 4) := by rw [List.length_append, N3.out]; rfl
  clear l0 t0 H3 N3
  generalize ((ws3 ++ [⟨(secN na3 na3.fin).toNat, R.encS (comR na3)⟩]) : List Wr) = ws4 at *
  go_wp2_with fail
  refine (commit_no Ga12.out.log Ga12.out.ok (by rw [na4_m]; decide)).mono ?_
  rintro e w13 ⟨rfl, b0⟩
  rw [na4_m]
  have B13 : Hid (Below w.heap.size w w13) := below_then B12.out b0
  have Ga13 : Hid (LB w13 w2.heap.size L p d0 ws4 na4) := LD.later Ga12.out b0
  clear Ga12
  clear B12
  clear b0
  have U13 : Hid (_) := build_v0 w13
  go_wp2_with ((with_reducible refine at_ops ?_); (refine wpList_build_is (vs := []) (by rfl) 35 rfl (by rfl) U13.out ?_); simp only [Act.put, List.setIfInBounds_toArray, List.set_cons_zero, List.set_cons_succ])
  refine (image_no Ga13.out.log Ga13.out.ok 0 (v9 0) (by rw [na4_i]; decide)).mono ?_
  rintro e w14 ⟨rfl, b0⟩
  rw [na4_i]
  have B14 : Hid (Below w.heap.size w w14) := below_then B13.out b0
  have Ga14 : Hid (LB w14 w2.heap.size L p d0 ws4 na4) := LD.later Ga13.out b0
  clear Ga13
  clear B13
  clear b0 U13
  go_wp2_with fail
  refine (mark_no Ga14.out.log 9 na4_9).mono ?_
  rintro e wz ⟨rfl, rfl⟩
  go_wp2_with fail
  refine (mark_no Ga14.out.log 15 na4_15).mono ?_
  rintro e wz ⟨rfl, rfl⟩
  go_wp2_with fail
  refine (mark_B Ga14.out (by rw [N4.out]; decide) (HT.out.later B14.out) 13 na4_13).mono ?_
  rintro e w15 ⟨rfl, l0, t0⟩
  have B15 : Hid (Below w.heap.size w w15) := B14.out.trans (t0.low.mono hbase)
  clear Ga14
  clear B14
  have H5 : Hid (Holds na5 (ws4 ++ [⟨0, encS (supL na4 13)⟩]) d0 10 nal) := Holds.mark H4.out na4_ok 13 _
  have Ga15 : Hid (LB w15 w2.heap.size L p d0 (ws4 ++ [⟨0, encS (supL na4 13)⟩]) na5) := l0
  have N5 : Hid (((ws4 ++ [⟨0, encS (supL na4 13)⟩]) : List Wr).length = 5) := by rw [List.length_append, N4.out]; rfl
  clear l0 t0 H4 N4
  generalize ((ws4 ++ [⟨0, encS (supL na4 13)⟩]) : List Wr) = ws5 at *
  go_wp2_with fail
  have l0z : Hid (_) := Ga15.out
  refine (free_B Ga15.out (by rw [N5.out]; decide)).mono ?_
  rintro e w16 ⟨rfl, l0, t0⟩
  rw [show na5.mark - na5.tail = 3 from rfl]
  have B16 : Hid (Below w.heap.size w w16) := B15.out.trans (t0.low.mono hbase)
  clear Ga15
  clear B15
  have H6 : Hid (Holds na6 [] (settle (fun _ => true) ws5 d0) 10 nal) := Holds.free (Holds.flush H5.out na5_ok (LB.len l0z.out).1 (LB.len l0z.out).2) na5_ok
  have Ga16 : Hid (LB w16 w2.heap.size L p (settle (fun _ => true) ws5 d0) [] na6) := l0
  clear l0 t0 H5 N5 l0z
  generalize (settle (fun _ => true) ws5 d0) = d1 at *
  go_wp2_with fail
  refine (wread_at Ga16.out (HT.out.later B16.out) 13 (by decide)).mono ?_
  rintro e w17 ⟨rfl, b0⟩
  rw [H6.out.read (p := 13) (by decide) (r := comR na3) rfl]
  have B17 : Hid (Below w.heap.size w w17) := below_then B16.out b0
  have Ga17 : Hid (LB w17 w2.heap.size L p d1 [] na6) := LD.later Ga16.out b0
  clear Ga16
  clear B16
  clear b0
  have A17 : Hid (_) := R.alloc31 w17
  have T17 : Hid (_) := R.store_new R.size31 w17 (comR na3) (R.zs_len 32)
  obtain ⟨w18, hw18⟩ : ∃ x, x = w17.alloc (.cells (R.rcells (comR na3)).toArray 41) := ⟨_, rfl⟩
  rw [← hw18] at T17
  have b6 : Below w17.heap.size w17 w18 := by rw [hw18]; exact below_alloc w17 _
  have Y18 : Hid (R.RAt 41 w18 w17.heap.size (comR na3)) := by rw [hw18]; exact R.RAt.new 41 w17 _
  have B18 : Hid (Below w.heap.size w w18) := below_then B17.out b6
  have Ga18 : Hid (LB w18 w2.heap.size L p d1 [] na6) := LD.later Ga17.out b6
  clear Ga17
  clear B17
  clear hw18 b6
  go_wp2_with ((with_reducible refine at_ops ?_); (first | (refine wpList_alloc_is (by rfl) 41 rfl A17.out ?_) | (refine wpList_store_is (by rfl) 41 rfl rfl rfl T17.out ?_)); simp only [Act.put, List.setIfInBounds_toArray, List.set_cons_zero, List.set_cons_succ])
  refine (wread_at Ga18.out (HT.out.later B18.out) 12 (by decide)).mono ?_
  rintro e w19 ⟨rfl, b0⟩
  rw [rdS_out (g := na6) _ (p := 12) (by decide)]
  have B19 : Hid (Below w.heap.size w w19) := below_then B18.out b0
  have Ga19 : Hid (LB w19 w2.heap.size L p d1 [] na6) := LD.later Ga18.out b0
  clear Ga18
  have Y19 : Hid (R.RAt 41 w19 w17.heap.size (comR na3)) := R.RAt.later Y18.out b0
  clear Y18
  clear B18
  clear b0
  have A19 : Hid (_) := R.alloc31 w19
  have T19 : Hid (_) := R.store_new R.size31 w19 R.rec0 R.rec0_len
  obtain ⟨w20, hw20⟩ : ∃ x, x = w19.alloc (.cells (R.rcells R.rec0).toArray 41) := ⟨_, rfl⟩
  rw [← hw20] at T19 A19
  have b6 : Below w19.heap.size w19 w20 := by rw [hw20]; exact below_alloc w19 _
  have B20 : Hid (Below w.heap.size w w20) := below_then B19.out b6
  have Ga20 : Hid (LB w20 w2.heap.size L p d1 [] na6) := LD.later Ga19.out b6
  clear Ga19
  have Y20 : Hid (R.RAt 41 w20 w17.heap.size (comR na3)) := R.RAt.later Y19.out b6
  clear Y19
  clear B19
  clear hw20 b6
  go_wp2_with ((with_reducible refine at_ops ?_); (first | (refine wpList_alloc_is (by rfl) 41 rfl A19.out ?_) | (refine wpList_store_is (by rfl) 41 rfl rfl rfl T19.out ?_)); simp only [Act.put, List.setIfInBounds_toArray, List.set_cons_zero, List.set_cons_succ])
  refine (wread_at Ga20.out (HT.out.later B20.out) 14 (by decide)).mono ?_
  rintro e w21 ⟨rfl, b0⟩
  rw [rdS_out (g := na6) _ (p := 14) (by decide)]
  have B21 : Hid (Below w.heap.size w w21) := below_then B20.out b0
  have Ga21 : Hid (LB w21 w2.heap.size L p d1 [] na6) := LD.later Ga20.out b0
  clear Ga20
  have Y21 : Hid (R.RAt 41 w21 w17.heap.size (comR na3)) := R.RAt.later Y20.out b0
  clear Y20
  clear B20
  clear b0
  have A21 : Hid (_) := R.alloc31 w21
  have T21 : Hid (_) := R.store_new R.size31 w21 R.rec0 R.rec0_len
  obtain ⟨w22, hw22⟩ : ∃ x, x = w21.alloc (.cells (R.rcells R.rec0).toArray 41) := ⟨_, rfl⟩
  rw [← hw22] at T21 A21
  have b6 : Below w21.heap.size w21 w22 := by rw [hw22]; exact below_alloc w21 _
  have B22 : Hid (Below w.heap.size w w22) := below_then B21.out b6
  have Ga22 : Hid (LB w22 w2.heap.size L p d1 [] na6) := LD.later Ga21.out b6
  clear Ga21
  have Y22 : Hid (R.RAt 41 w22 w17.heap.size (comR na3)) := R.RAt.later Y21.out b6
  clear Y21
  clear B21
  clear hw22 b6
  have c35 := R.RAt.c35 Y22.out (R.zs_len 32)
  go_wp2_with ((with_reducible refine at_ops ?_); (first | (refine wpList_alloc_is (by rfl) 41 rfl A21.out ?_) | (refine wpList_store_is (by rfl) 41 rfl rfl rfl T21.out ?_)); simp only [Act.put, List.setIfInBounds_toArray, List.set_cons_zero, List.set_cons_succ])
  refine (lused_at Ga22.out.log Ga22.out.ok).mono ?_
  rintro e wz ⟨rfl, rfl⟩
  rw [show na6.fin - na6.tail = 1 from rfl]
  go_wp2_with fail
  clear c35 Y22 Ga22 H6
  refine (small_any w22).mono ?_
  rintro e w23 ⟨rfl, b0⟩
  have B23 : Hid (Below w.heap.size w w23) := below_then B22.out b0
  clear B22
  clear b0
  go_wp2_with fail
  refine (opened_ok sm9 8 4611686018427387904 1 (by decide) (by decide) (by decide) (by decide) (by decide) w23).mono ?_
  rintro e w24 ⟨L2, p2, rfl, l0, b0⟩
  have B24 : Hid (Below w.heap.size w w24) := below_then B23.out b0
  clear B23
  have Gb24 : Hid (GAt w24 L2 (some ⟨p2, 0, none⟩) nb0 ∧ nb0.Ok) := ⟨l0.log, l0.ok⟩
  clear b0 l0
  go_wp2_with fail
  refine (commit_no Gb24.out.1 Gb24.out.2 (by rw [nb0_m]; decide)).mono ?_
  rintro e w25 ⟨rfl, b0⟩
  rw [nb0_m]
  have B25 : Hid (Below w.heap.size w w25) := below_then B24.out b0
  clear B24
  clear b0 Gb24
  go_wp2_with fail
  refine (small_any w25).mono ?_
  rintro e w26 ⟨rfl, b0⟩
  have B26 : Hid (Below w.heap.size w w26) := below_then B25.out b0
  clear B25
  clear b0
  go_wp2_with fail
  refine (opened_no sm9 8 1 0 (by decide) (by decide) (by decide) (by decide) (by decide) w26).mono ?_
  rintro e w27 ⟨p26, rfl, b0⟩
  rw [show opnS sm9 ((8 : Nat) : Int) 1 0 = 2 by decide]
  have B27 : Hid (Below w.heap.size w w27) := below_then B26.out b0
  clear B26
  clear b0
  go_wp2_with fail
  refine (small_any w27).mono ?_
  rintro e w28 ⟨rfl, b0⟩
  have B28 : Hid (Below w.heap.size w w28) := below_then B27.out b0
  clear B27
  clear b0
  go_wp2_with fail
  refine (opened_no sm9 9 1 1 (by decide) (by decide) (by decide) (by decide) (by decide) w28).mono ?_
  rintro e w29 ⟨p28, rfl, b0⟩
  rw [show opnS sm9 ((9 : Nat) : Int) 1 1 = 40 by decide]
  have B29 : Hid (Below w.heap.size w w29) := below_then B28.out b0
  clear B28
  clear b0
  have U29 : Hid (_) := build23 w29 #[] sup0 fill_noneC
  go_wp2_with ((with_reducible refine at_ops ?_); (refine wpList_build_is (vs := []) (by rfl) 29 rfl (by rfl) U29.out ?_); simp only [Act.put, List.setIfInBounds_toArray, List.set_cons_zero, List.set_cons_succ])
  refine (opened_no sup0 9 1 1 (by decide) (by decide) (by decide) (by decide) (by decide) w29).mono ?_
  rintro e w30 ⟨p29, rfl, b0⟩
  rw [show opnS sup0 ((9 : Nat) : Int) 1 1 = 3 by decide]
  have B30 : Hid (Below w.heap.size w w30) := below_then B29.out b0
  clear B29
  clear b0
  go_wp2_with fail
  refine (small_any w30).mono ?_
  rintro e w31 ⟨rfl, b0⟩
  have B31 : Hid (Below w.heap.size w w31) := below_then B30.out b0
  clear B30
  clear b0
  go_wp2_with fail
  refine (opened_no sm9 8 4611686018427387905 1 (by decide) (by decide) (by decide) (by decide) (by decide) w31).mono ?_
  rintro e w32 ⟨p31, rfl, b0⟩
  rw [show opnS sm9 ((8 : Nat) : Int) 4611686018427387905 1 = 31 by decide]
  have B32 : Hid (Below w.heap.size w w32) := below_then B31.out b0
  clear B31
  clear b0
  go_wp2_with fail
  refine (small_any w32).mono ?_
  rintro e w33 ⟨rfl, b0⟩
  have B33 : Hid (Below w.heap.size w w33) := below_then B32.out b0
  clear B32
  clear b0
  go_wp2_with fail
  refine (open_nil sm9 1 1 w33).mono ?_
  rintro e w34 ⟨rfl, b0⟩
  have B34 : Hid (Below w.heap.size w w34) := below_then B33.out b0
  clear B33
  clear b0
  have U34 : Hid (_) := build_v0 w34
  go_wp2_with ((with_reducible refine at_ops ?_); (refine wpList_build_is (vs := []) (by rfl) 35 rfl (by rfl) U34.out ?_); simp only [Act.put, List.setIfInBounds_toArray, List.set_cons_zero, List.set_cons_succ])
  refine (image_nil 0 (v9 0) w34).mono ?_
  rintro e w35 ⟨rfl, b0⟩
  have B35 : Hid (Below w.heap.size w w35) := below_then B34.out b0
  clear B34
  clear b0
  go_wp2_with fail
  refine (commit_nil w35).mono ?_
  rintro e wz ⟨rfl, rfl⟩
  go_wp2_with fail
  refine (wflush_nil w35).mono ?_
  rintro e wz ⟨rfl, rfl⟩
  go_wp2_with fail
  refine (free_nil w35).mono ?_
  rintro e wz ⟨rfl, rfl⟩
  go_wp2_with fail
  refine (wread_nil 0 w35).mono ?_
  rintro e w36 ⟨rfl, b0⟩
  have B36 : Hid (Below w.heap.size w w36) := below_then B35.out b0
  clear B35
  clear b0
  have A36 : Hid (_) := R.alloc31 w36
  have T36 : Hid (_) := R.store_new R.size31 w36 R.rec0 R.rec0_len
  obtain ⟨w37, hw37⟩ : ∃ x, x = w36.alloc (.cells (R.rcells R.rec0).toArray 41) := ⟨_, rfl⟩
  rw [← hw37] at T36 A36
  have b6 : Below w36.heap.size w36 w37 := by rw [hw37]; exact below_alloc w36 _
  have B37 : Hid (Below w.heap.size w w37) := below_then B36.out b6
  clear B36
  clear hw37 b6
  go_wp2_with ((with_reducible refine at_ops ?_); (first | (refine wpList_alloc_is (by rfl) 41 rfl A36.out ?_) | (refine wpList_store_is (by rfl) 41 rfl rfl rfl T36.out ?_)); simp only [Act.put, List.setIfInBounds_toArray, List.set_cons_zero, List.set_cons_succ])
  refine (told_any (nil_rdr w37) 3 (by decide) (by decide)).mono ?_
  rintro e w38 ⟨v, rfl, o0, b0⟩
  have B38 : Hid (Below w.heap.size w w38) := below_then B37.out b0
  clear B37
  obtain ⟨q3, cap3, rfl, -, -⟩ := own_slice o0
  rw [show ((allR (fun _ => (R.rec0, 1)) 0 ((0 : Int) - 0).toNat).take (3 : Int).toNat).length = 0 from rfl]
  clear o0 b0
  go_wp2_with fail
  refine (mark_nil 0 w38).mono ?_
  rintro e wz ⟨rfl, rfl⟩
  go_wp2_with fail
  refine (ltail_nil w38).mono ?_
  rintro e wz ⟨rfl, rfl⟩
  go_wp2_with fail
  refine (lend_nil w38).mono ?_
  rintro e wz ⟨rfl, rfl⟩
  go_wp2_with fail
  refine (lmarked_nil w38).mono ?_
  rintro e wz ⟨rfl, rfl⟩
  go_wp2_with fail
  refine (lused_nil w38).mono ?_
  rintro e wz ⟨rfl, rfl⟩
  go_wp2_with fail
  refine (over_nil _ w38).mono ?_
  rintro e wz ⟨rfl, rfl⟩
  go_wp2_with fail
  go_ret
  exact ⟨rfl, B38.out⟩
end Go.Proofs.YtmcpjokbkkfgfaaDoor
