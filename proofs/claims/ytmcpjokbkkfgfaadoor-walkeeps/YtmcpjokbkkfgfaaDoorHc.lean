/-
  Layer 9: fixed.
-/
import Derived.Test.YtmcpjokbkkfgfaaDoorHb
namespace Go.Proofs.YtmcpjokbkkfgfaaDoor
open Go.RowKit


def v9 (x : Int) : List Int := x :: R.zs 31
theorem v9_len (x : Int) : (v9 x).length = 32 := by simp [v9, R.zs_len]
theorem v9_bytes {x : Int} (h : 0 ≤ x ∧ x < 256) : Bytes (v9 x) := fun y hy => by
  rcases List.mem_cons.1 hy with rfl | hy
  · exact h
  · exact R.zs_bytes 31 y hy
theorem build_v (w : World) (x : Int) : (Instr.build 35 #[(0, .int .u8 x)]).run Tryd.prog w = .ok (.agg (U8 (v9 x)).toArray) w := run_build w 35 _ _ (by kernel_rfl)
theorem build_v0 (w : World) : (Instr.build 35 #[]).run Tryd.prog w = .ok (.agg (U8 (v9 0)).toArray) w := run_build w 35 _ _ (by kernel_rfl)
theorem build_rec4 (w : World) (p b : Int) (v : List Int) (hv : v.length = 32) : (Instr.build 41 #[(0, .int .i64 1), (1, .int .u64 p), (2, .int .i64 b), (3, .agg (U8 v).toArray)]).run Tryd.prog w = .ok (.agg (R.rcells ⟨1, p, b, v, 0⟩).toArray) w :=
  R.build31 w _ _ (by
    show Instr.fill _ _ [(0, .int .i64 1), (1, .int .u64 p), (2, .int .i64 b), (3, .agg (U8 v).toArray)] = _
    rw [R.fill_k R.rec0 R.rec0_len, R.fill_p ⟨1, R.rec0.pos, R.rec0.block, R.rec0.val, R.rec0.images⟩ R.rec0_len, R.fill_b ⟨1, p, R.rec0.block, R.rec0.val, R.rec0.images⟩ R.rec0_len, R.fill_v ⟨1, p, b, R.rec0.val, R.rec0.images⟩ R.rec0_len v hv, R.fill_end]; rfl)
theorem build_rec3 (w : World) (p i : Int) : (Instr.build 41 #[(0, .int .i64 2), (1, .int .u64 p), (4, .int .i64 i)]).run Tryd.prog w = .ok (.agg (R.rcells ⟨2, p, 0, R.zs 32, i⟩).toArray) w :=
  R.build31 w _ _ (by
    show Instr.fill _ _ [(0, .int .i64 2), (1, .int .u64 p), (4, .int .i64 i)] = _
    rw [R.fill_k R.rec0 R.rec0_len, R.fill_p ⟨2, R.rec0.pos, R.rec0.block, R.rec0.val, R.rec0.images⟩ R.rec0_len, R.fill_i ⟨2, p, R.rec0.block, R.rec0.val, R.rec0.images⟩ R.rec0_len, R.fill_end]; rfl)
def fx0 : Lg := opnG sm9 10 1
def fx1 : Lg := imgG fx0 2
def fx2 : Lg := comG fx1
def fx3 : Lg := mkG fx2 12
def fx4 : Lg := frG fx3
theorem fx0_ok : fx0.Ok := opnG_ok (n := 8) (by decide) (by decide) (by decide)
theorem fx0_i : imgS fx0 2 = 0 := by decide
theorem fx1_ok : fx1.Ok := imgG_ok fx0_ok fx0_i
theorem fx1_m : moreS fx1 = 0 := by decide
theorem fx2_ok : fx2.Ok := comG_ok fx1_ok fx1_m
theorem fx2_o : ¬ Out fx2 12 := by decide
theorem fx3_ok : fx3.Ok := mkG_ok fx2_ok fx2_o

set_option maxHeartbeats 4000000 in
set_option maxRecDepth 100000 in
theorem fixed_any (w : World) (ht : Tab w) : Calls Tryd.prog 5 #[] w fun e w' => e = .returned (.bool true) ∧ Below w.heap.size w w' := by
  have HT : Hid (Tab w) := ht
  have B0 : Hid (Below w.heap.size w w) := Below.refl _ _
  clear ht
  go_enter Tryd.func5, Tryd.ntmps5
  dsimp only [List.append]
  go_wp2_with fail
  refine (small_any w).mono ?_
  rintro e w1 ⟨rfl, b0⟩
  have B1 : Hid (Below w.heap.size w w1) := below_then B0.out b0
  clear B0
  clear b0
  go_wp2_with fail
  refine (opened_ok sm9 8 10 1 (by decide) (by decide) (by decide) (by decide) (by decide) w1).mono ?_
  rintro e w2 ⟨L, p, rfl, l0, b0⟩
  have B2s : Hid (w.heap.size ≤ w1.heap.size) := B1.out.size
  have B2 : Hid (Below w.heap.size w w2) := below_then B1.out b0
  clear B1
  have Ga2 : Hid (LB w2 w1.heap.size L p (List.replicate (64 * 8) 0) [] fx0) := l0
  have hbase : w.heap.size ≤ w1.heap.size := B2s.out
  have H0 : Hid (Holds fx0 [] (List.replicate (64 * 8) 0) 10 []) := Holds.start _ _ _ _ _
  clear b0 l0
  generalize (List.replicate (64 * 8) (0 : Int)) = d0 at *
  have U2 : Hid (_) := build_v w2 5
  go_wp2_with ((with_reducible refine at_ops ?_); (refine wpList_build_is (vs := [(0, .int .u8 5)]) (by rfl) 35 rfl (by rfl) U2.out ?_); simp only [Act.put, List.setIfInBounds_toArray, List.set_cons_zero, List.set_cons_succ])
  refine (image_B Ga2.out (by simp) (HT.out.later B2.out) 2 (v9 5) (v9_len 5) (v9_bytes (by omega)) fx0_i).mono ?_
  rintro e w3 ⟨rfl, l0, t0⟩
  rw [show fx0.fin = 10 from rfl]
  have B3 : Hid (Below w.heap.size w w3) := B2.out.trans (t0.low.mono hbase)
  clear Ga2
  clear B2
  have H1 : Hid (Holds fx1 ([] ++ [⟨(secN fx0 fx0.fin).toNat, R.encS (imgR fx0 2 (v9 5))⟩]) d0 10 [imgR fx0 2 (v9 5)]) := Holds.img H0.out fx0_ok fx0_i (v9_len 5) (v9_bytes (by omega))
  have Ga3 : Hid (LB w3 w1.heap.size L p d0 ([] ++ [⟨(secN fx0 fx0.fin).toNat, R.encS (imgR fx0 2 (v9 5))⟩]) fx1) := l0
  have N1 : Hid (([] ++ [⟨(secN fx0 fx0.fin).toNat, R.encS (imgR fx0 2 (v9 5))⟩] : List Wr).length = 1) := rfl
  clear l0 t0 U2 H0
  generalize ([] ++ [⟨(secN fx0 fx0.fin).toNat, R.encS (imgR fx0 2 (v9 5))⟩] : List Wr) = ws1 at *
  go_wp2_with fail
  refine (commit_B Ga3.out (by rw [N1.out]; decide) (HT.out.later B3.out) fx1_m).mono ?_
  rintro e w4 ⟨rfl, l0, t0⟩
  rw [show fx1.fin = 11 from rfl]
  have B4 : Hid (Below w.heap.size w w4) := B3.out.trans (t0.low.mono hbase)
  clear Ga3
  clear B3
  have H2 : Hid (Holds fx2 (ws1 ++ [⟨(secN fx1 fx1.fin).toNat, R.encS (comR fx1)⟩]) d0 10 [imgR fx0 2 (v9 5), comR fx1]) := Holds.com H1.out fx1_ok fx1_m
  have Ga4 : Hid (LB w4 w1.heap.size L p d0 (ws1 ++ [⟨(secN fx1 fx1.fin).toNat, R.encS (comR fx1)⟩]) fx2) := l0
  have N2 : Hid ((ws1 ++ [⟨(secN fx1 fx1.fin).toNat, R.encS (comR fx1)⟩] : List Wr).length = 2) := by rw [List.length_append, N1.out]; rfl
  clear l0 t0 H1 N1
  generalize (ws1 ++ [⟨(secN fx1 fx1.fin).toNat, R.encS (comR fx1)⟩] : List Wr) = ws2 at *
  go_wp2_with fail
  refine (wread_at Ga4.out (HT.out.later B4.out) 10 (by decide)).mono ?_
  rintro e w5 ⟨rfl, b0⟩
  rw [H2.out.read (p := 10) (by decide) (r := imgR fx0 2 (v9 5)) rfl]
  have B5 : Hid (Below w.heap.size w w5) := below_then B4.out b0
  have Ga5 : Hid (LB w5 w1.heap.size L p d0 ws2 fx2) := LD.later Ga4.out b0
  clear Ga4
  clear B4
  have A5 : Hid (_) := R.alloc31 w5
  have T5 : Hid (_) := R.store_new R.size31 w5 (imgR fx0 2 (v9 5)) (v9_len 5)
  obtain ⟨w6, hw6⟩ : ∃ x, x = w5.alloc (.cells (R.rcells (imgR fx0 2 (v9 5))).toArray 41) := ⟨_, rfl⟩
  rw [← hw6] at T5
  have b6 : Below w5.heap.size w5 w6 := by rw [hw6]; exact below_alloc w5 _
  have X6 : Hid (R.RAt 41 w6 w5.heap.size (imgR fx0 2 (v9 5))) := by rw [hw6]; exact R.RAt.new 41 w5 _
  have B6 : Hid (Below w.heap.size w w6) := below_then B5.out b6
  have Ga6 : Hid (LB w6 w1.heap.size L p d0 ws2 fx2) := LD.later Ga5.out b6
  clear Ga5
  clear B5
  clear hw6 b6 b0
  go_wp2_with ((with_reducible refine at_ops ?_); (first | (refine wpList_alloc_is (by rfl) 41 rfl A5.out ?_) | (refine wpList_store_is (by rfl) 41 rfl rfl rfl T5.out ?_)); simp only [Act.put, List.setIfInBounds_toArray, List.set_cons_zero, List.set_cons_succ])
  have l0z : Hid (_) := Ga6.out
  refine (flush_B Ga6.out (by rw [N2.out]; decide)).mono ?_
  rintro e w7 ⟨rfl, l0, t0⟩
  rw [N2.out]
  have B7 : Hid (Below w.heap.size w w7) := B6.out.trans (t0.low.mono hbase)
  clear Ga6
  have X7 : Hid (R.RAt 41 w7 w5.heap.size (imgR fx0 2 (v9 5))) := t0.other _ _ _ _ (by decide) X6.out
  clear X6
  clear B6
  have H3 : Hid (Holds fx2 [] (settle (fun _ => true) ws2 d0) 10 [imgR fx0 2 (v9 5), comR fx1]) := Holds.flush H2.out fx2_ok (LB.len l0z.out).1 (LB.len l0z.out).2
  have Ga7 : Hid (LB w7 w1.heap.size L p (settle (fun _ => true) ws2 d0) [] fx2) := l0
  clear l0 t0 H2 N2 l0z
  generalize (settle (fun _ => true) ws2 d0) = d1 at *
  go_wp2_with fail
  refine (mark_B Ga7.out (by decide) (HT.out.later B7.out) 12 fx2_o).mono ?_
  rintro e w8 ⟨rfl, l0, t0⟩
  have B8 : Hid (Below w.heap.size w w8) := B7.out.trans (t0.low.mono hbase)
  clear Ga7
  have X8 : Hid (R.RAt 41 w8 w5.heap.size (imgR fx0 2 (v9 5))) := t0.other _ _ _ _ (by decide) X7.out
  clear X7
  clear B7
  have H4 : Hid (Holds fx3 ([] ++ [⟨0, encS (supL fx2 12)⟩]) d1 10 [imgR fx0 2 (v9 5), comR fx1]) := Holds.mark H3.out fx2_ok 12 _
  have Ga8 : Hid (LB w8 w1.heap.size L p d1 ([] ++ [⟨0, encS (supL fx2 12)⟩]) fx3) := l0
  have N4 : Hid (([] ++ [⟨0, encS (supL fx2 12)⟩] : List Wr).length = 1) := rfl
  clear l0 t0 H3
  generalize ([] ++ [⟨0, encS (supL fx2 12)⟩] : List Wr) = ws4 at *
  go_wp2_with fail
  have l0z : Hid (_) := Ga8.out
  refine (free_B Ga8.out (by rw [N4.out]; decide)).mono ?_
  rintro e w9 ⟨rfl, l0, t0⟩
  rw [show fx3.mark - fx3.tail = 2 from rfl]
  have B9 : Hid (Below w.heap.size w w9) := B8.out.trans (t0.low.mono hbase)
  clear Ga8
  have X9 : Hid (R.RAt 41 w9 w5.heap.size (imgR fx0 2 (v9 5))) := t0.other _ _ _ _ (by decide) X8.out
  clear X8
  clear B8
  have H5 : Hid (Holds fx4 [] (settle (fun _ => true) ws4 d1) 10 [imgR fx0 2 (v9 5), comR fx1]) := Holds.free (Holds.flush H4.out fx3_ok (LB.len l0z.out).1 (LB.len l0z.out).2) fx3_ok
  have Ga9 : Hid (LB w9 w1.heap.size L p (settle (fun _ => true) ws4 d1) [] fx4) := l0
  clear l0 t0 H4 N4 l0z
  generalize (settle (fun _ => true) ws4 d1) = d2 at *
  go_wp2_with fail
  refine (told_B Ga9.out (HT.out.later B9.out) 9 (by decide) (by decide)).mono ?_
  rintro e w10 ⟨v, rfl, o0, b0⟩
  have B10 : Hid (Below w.heap.size w w10) := below_then B9.out b0
  have Ga10 : Hid (LB w10 w1.heap.size L p d2 [] fx4) := LD.later Ga9.out b0
  clear Ga9
  have X10 : Hid (R.RAt 41 w10 w5.heap.size (imgR fx0 2 (v9 5))) := R.RAt.later X9.out b0
  clear X9
  clear B9
  rw [H5.out.all (frG_ok fx3_ok)] at o0
  obtain ⟨q, cap, rfl, -, -⟩ := own_slice o0
  clear o0 b0
  have L10 : Hid (_) := R.RAt.load31 X10.out (v9_len 5)
  have U10 : Hid (_) := build_v w10 5
  have V10 : Hid (_) := build_rec4 w10 10 2 (v9 5) (v9_len 5)
  have E10 : Hid ((binOp .eql 41 (.agg (R.rcells (imgR fx0 2 (v9 5))).toArray) (.agg (R.rcells ⟨1, 10, 2, v9 5, 0⟩).toArray)).run Tryd.prog w10 = .ok (.bool true) w10) := by
    have := R.eql31 w10 (imgR fx0 2 (v9 5)) ⟨1, 10, 2, v9 5, 0⟩ (v9_len 5) (v9_len 5)
    rwa [show R.recB (imgR fx0 2 (v9 5)) ⟨1, 10, 2, v9 5, 0⟩ = true from R.recB_same _] at this
  rw [show (([imgR fx0 2 (v9 5), comR fx1].drop (fx4.tail - 10).toNat).take (9 : Int).toNat).length = 0 from rfl]
  go_wp2_with ((with_reducible refine at_ops ?_); (first | (refine wpList_load_is (by rfl) 41 rfl rfl L10.out ?_) | (refine wpList_build_is (vs := [(0, .int .u8 5)]) (by rfl) 35 rfl (by rfl) U10.out ?_) | (refine wpList_build_is (vs := [(0, .int .i64 1), (1, .int .u64 10), (2, .int .i64 2), (3, .agg (U8 (v9 5)).toArray)]) (by rfl) 41 rfl (by rfl) V10.out ?_) | (refine wpList_eql_is (by rfl) 41 rfl rfl rfl R.eqg31 E10.out ?_)); simp only [Act.put, List.setIfInBounds_toArray, List.set_cons_zero, List.set_cons_succ])
  refine (ltail_at Ga10.out.log).mono ?_
  rintro e wz ⟨rfl, rfl⟩
  rw [show fx4.tail = 12 from rfl]
  go_wp2_with fail
  refine (lend_at Ga10.out.log).mono ?_
  rintro e wz ⟨rfl, rfl⟩
  rw [show fx4.fin = 12 from rfl]
  go_wp2_with fail
  refine (lmarked_at Ga10.out.log).mono ?_
  rintro e wz ⟨rfl, rfl⟩
  rw [show fx4.mark = 12 from rfl]
  go_wp2_with fail
  refine (lused_at Ga10.out.log Ga10.out.ok).mono ?_
  rintro e wz ⟨rfl, rfl⟩
  rw [show fx4.fin - fx4.tail = 0 from rfl]
  go_wp2_with fail
  go_ret
  exact ⟨rfl, B10.out⟩
end Go.Proofs.YtmcpjokbkkfgfaaDoor
