/-
  Layer 9: fixed.
-/
import Derived.Test.YtmcpjokbkkfgfaaGreatDoorT31
import Derived.Test.YtmcpjokbkkfgfaaGreatDoorT29
import Derived.Test.YtmcpjokbkkfgfaaGreatDoorT16
namespace Go.Proofs.YtmcpjokbkkfgfaaGreatDoor
open Go.RowKit


def v9 (x : Int) : List Int := x :: R.zs 31
theorem v9_len (x : Int) : (v9 x).length = 32 := by simp [v9, R.zs_len]
theorem v9_bytes {x : Int} (h : 0 ≤ x ∧ x < 256) : Bytes (v9 x) := fun y hy => by
  rcases List.mem_cons.1 hy with rfl | hy
  · exact h
  · exact R.zs_bytes 31 y hy
theorem build_v (w : World) (x : Int) : (Instr.build 49 #[(0, .int .u8 x)]).run Tryz.prog w = .ok (.agg (U8 (v9 x)).toArray) w := run_build w 49 _ _ (by kernel_rfl)
theorem build_v0 (w : World) : (Instr.build 49 #[]).run Tryz.prog w = .ok (.agg (U8 (v9 0)).toArray) w := run_build w 49 _ _ (by kernel_rfl)
theorem build_rec4 (w : World) (p b : Int) (v : List Int) (hv : v.length = 32) : (Instr.build 62 #[(0, .int .i64 1), (1, .int .u64 p), (2, .int .i64 b), (3, .agg (U8 v).toArray)]).run Tryz.prog w = .ok (.agg (R.rcells ⟨1, p, b, v, 0⟩).toArray) w :=
  R.build31 w _ _ (by
    show Instr.fill _ _ [(0, .int .i64 1), (1, .int .u64 p), (2, .int .i64 b), (3, .agg (U8 v).toArray)] = _
    rw [R.fill_k R.rec0 R.rec0_len, R.fill_p ⟨1, R.rec0.pos, R.rec0.block, R.rec0.val, R.rec0.images⟩ R.rec0_len, R.fill_b ⟨1, p, R.rec0.block, R.rec0.val, R.rec0.images⟩ R.rec0_len, R.fill_v ⟨1, p, b, R.rec0.val, R.rec0.images⟩ R.rec0_len v hv, R.fill_end]; rfl)
theorem build_rec3 (w : World) (p i : Int) : (Instr.build 62 #[(0, .int .i64 2), (1, .int .u64 p), (4, .int .i64 i)]).run Tryz.prog w = .ok (.agg (R.rcells ⟨2, p, 0, R.zs 32, i⟩).toArray) w :=
  R.build31 w _ _ (by
    show Instr.fill _ _ [(0, .int .i64 2), (1, .int .u64 p), (4, .int .i64 i)] = _
    rw [R.fill_k R.rec0 R.rec0_len, R.fill_p ⟨2, R.rec0.pos, R.rec0.block, R.rec0.val, R.rec0.images⟩ R.rec0_len, R.fill_i ⟨2, p, R.rec0.block, R.rec0.val, R.rec0.images⟩ R.rec0_len, R.fill_end]; rfl)
def fx0 : Lg := opnG sm9 10 1
def fx1 : Lg := imgG fx0 2
def fx2 : Lg := comG fx1
def fx3 : Lg := mkG fx2 12
def fx4 : Lg := frG fx3
theorem fx0_ok : fx0.Ok := opnG_ok (n := 8) (by decide) (by decide) (by decide)
theorem fx0_i : imgS fx0 2 = 0 := by decide
theorem fx1_ok : fx1.Ok := imgG_ok fx0_ok fx0_i
theorem fx1_m : moreS fx1 = 0 := by decide
theorem fx2_ok : fx2.Ok := comG_ok fx1_ok fx1_m
theorem fx2_o : ¬ Out fx2 12 := by decide
theorem fx3_ok : fx3.Ok := mkG_ok fx2_ok fx2_o

set_option maxHeartbeats 4000000 in
set_option maxRecDepth 100000 in
theorem fixed_any (w : World) (ht : Tab w) : Calls Tryz.prog 4 #[] w fun e w' => e = .returned (.bool true) ∧ Below w.heap.size w w' := by
  have HT : Hid (Tab w) := ht
  have B0 : Hid (Below w.heap.size w w) := Below.refl _ _
  clear ht
  go_enter Tryz.func4, Tryz.ntmps4
  dsimp only [List.append]
  go_wp2_with fail
  refine (small_any w).mono ?_
  rintro e w1 ⟨rfl, b0⟩
  have B1 : Hid (Below w.heap.size w w1) := below_then B0.out b0
  clear B0
  clear b0
  go_wp2_with fail
  refine (opened_ok sm9 8 10 1 (by decide) (by decide) (by decide) (by decide) (by decide) w1).mono ?_
  rintro e w2 ⟨L, p, rfl, l0, b0⟩
  have B2s : Hid (w.heap.size ≤ w1.heap.size) := B1.out.size
  have B2 : Hid (Below w.heap.size w w2) := below_then B1.out b0
  clear B1
  have Ga2 : Hid (LB w2 w1.heap.size L p (List.replicate (64 * 8) 0) [] fx0) := l0
  have hbase : w.heap.size ≤ w1.heap.size := B2s.out
  have H0 : Hid (Holds fx0 [] (List.replicate (64 * 8) 0) 10 []) := Holds.start _ _ _ _ _
  clear b0 l0
  generalize (List.replicate (64 * 8) (0 : Int)) = d0 at *
  have U2 : Hid (_) := build_v w2 5
  go_wp2_with ((with_reducible refine at_ops ?_); (refine wpList_build_is (vs := [(0, .int .u8 5)]) (by rfl) 49 rfl (by rfl) U2.out ?_); simp only [Act.put, List.setIfInBounds_toArray, List.set_cons_zero, List.set_cons_succ])
  refine (image_B Ga2.out (by simp) (HT.out.later B2.out) 2 (v9 5) (v9_len 5) (v9_bytes (by omega)) fx0_i).mono ?_
  rintro e w3 ⟨rfl, l0, t0⟩
  rw [show fx0.fin = 10 from rfl]
  have B3 : Hid (Below w.heap.size w w3) := B2.out.trans (t0.low.mono hbase)
  clear Ga2
  clear B2
  have H1 : Hid (Holds fx1 ([] ++ [⟨(secN fx0 fx0.fin).toNat, R.encS (imgR fx0 2 (v9 5))⟩]) d0 10 [imgR fx0 2 (v9 5)]) := Holds.img H0.out fx0_ok fx0_i (v9_len 5) (v9_bytes (by omega))
  have Ga3 : Hid (LB w3 w1.heap.size L p d0 ([] ++ [⟨(secN fx0 fx0.fin).toNat, R.encS (imgR fx0 2 (v9 5))⟩]) fx1) := l0
  have N1 : Hid (([] ++ [⟨(secN fx0 fx0.fin).toNat, R.encS (imgR fx0 2 (v9 5))⟩] : List Wr).length = 1) := rfl
  clear l0 t0 U2 H0
  generalize ([] ++ [⟨(secN fx0 fx0.fin).toNat, R.encS (imgR fx0 2 (v9 5))⟩] : List Wr) = ws1 at *
  go_wp2_with fail
  refine (commit_B Ga3.out (by rw [N1.out]; decide) (HT.out.later B3.out) fx1_m).mono ?_
  rintro e w4 ⟨rfl, l0, t0⟩
  rw [show fx1.fin = 11 from rfl]
  have B4 : Hid (Below w.heap.size w w4) := B3.out.trans (t0.low.mono hbase)
  clear Ga3
  clear B3
  have H2 : Hid (Holds fx2 (ws1 ++ [⟨(secN fx1 fx1.fin).toNat, R.encS (comR fx1)⟩]) d0 10 [imgR fx0 2 (v9 5), comR fx1]) := Holds.com H1.out fx1_ok fx1_m
  have Ga4 : Hid (LB w4 w1.heap.size L p d0 (ws1 ++ [⟨(secN fx1 fx1.fin).toNat, R.encS (comR fx1)⟩]) fx2) := l0
  have N2 : Hid ((ws1 ++ [⟨(secN fx1 fx1.fin).toNat, R.encS (comR fx1)⟩] : List Wr).length = 2) := by rw [List.length_append, N1.out]; rfl
  clear l0 t0 H1 N1
  generalize (ws1 ++ [⟨(secN fx1 fx1.fin).toNat, R.encS (comR fx1)⟩] : List Wr) = ws2 at *
  go_wp2_with fail
  refine (wread_at Ga4.out (HT.out.later B4.out) 10 (by decide)).mono ?_
  rintro e w5 ⟨rfl, b0⟩
  rw [H2.out.read (p := 10) (by decide) (r := imgR fx0 2 (v9 5)) rfl]
  have B5 : Hid (Below w.heap.size w w5) := below_then B4.out b0
  have Ga5 : Hid (LB w5 w1.heap.size L p d0 ws2 fx2) := LD.later Ga4.out b0
  clear Ga4
  clear B4
  have A5 : Hid (_) := R.alloc31 w5
  have T5 : Hid (_) := R.store_new R.size31 w5 (imgR fx0 2 (v9 5)) (v9_len 5)
  obtain ⟨w6, hw6⟩ : ∃ x, x = w5.alloc (.cells (R.rcells (imgR fx0 2 (v9 5))).toArray 62) := ⟨_, rfl⟩
  rw [← hw6] at T5
  have b6 : Below w5.heap.size w5 w6 := by rw [hw6]; exact below_alloc w5 _
  have X6 : Hid (R.RAt 62 w6 w5.heap.size (imgR fx0 2 (v9 5))) := by rw [hw6]; exact R.RAt.new 62 w5 _
  have B6 : Hid (Below w.heap.size w w6) := below_then B5.out b6
  have Ga6 : Hid (LB w6 w1.heap.size L p d0 ws2 fx2) := LD.later Ga5.out b6
  clear Ga5
  clear B5
  clear hw6 b6 b0
  go_wp2_with ((with_reducible refine at_ops ?_); (first | (refine wpList_alloc_is (by rfl) 62 rfl A5.out ?_) | (refine wpList_store_is (by rfl) 62 rfl rfl rfl T5.out ?_)); simp only [Act.put, List.setIfInBounds_toArray, List.set_cons_zero, List.set_cons_succ])
  have l0z : Hid (_) := Ga6.out
  refine (flush_B Ga6.out (by rw [N2.out]; decide)).mono ?_
  rintro e w7 ⟨rfl, l0, t0⟩
  rw [N2.out]
  have B7 : Hid (Below w.heap.size w w7) := B6.out.trans (t0.low.mono hbase)
  clear Ga6
  have X7 : Hid (R.RAt 62 w7 w5.heap.size (imgR fx0 2 (v9 5))) := t0.other _ _ _ _ (by decide) X6.out
  clear X6
  clear B6
  have H3 : Hid (Holds fx2 [] (settle (fun _ => true) ws2 d0) 10 [imgR fx0 2 (v9 5), comR fx1]) := Holds.flush H2.out fx2_ok (LB.len l0z.out).1 (LB.len l0z.out).2
  have Ga7 : Hid (LB w7 w1.heap.size L p (settle (fun _ => true) ws2 d0) [] fx2) := l0
  clear l0 t0 H2 N2 l0z
  generalize (settle (fun _ => true) ws2 d0) = d1 at *
  go_wp2_with fail
  refine (mark_B Ga7.out (by decide) (HT.out.later B7.out) 12 fx2_o).mono ?_
  rintro e w8 ⟨rfl, l0, t0⟩
  have B8 : Hid (Below w.heap.size w w8) := B7.out.trans (t0.low.mono hbase)
  clear Ga7
  have X8 : Hid (R.RAt 62 w8 w5.heap.size (imgR fx0 2 (v9 5))) := t0.other _ _ _ _ (by decide) X7.out
  clear X7
  clear B7
  have H4 : Hid (Holds fx3 ([] ++ [⟨0, encS (supL fx2 12)⟩]) d1 10 [imgR fx0 2 (v9 5), comR fx1]) := Holds.mark H3.out fx2_ok 12 _
  have Ga8 : Hid (LB w8 w1.heap.size L p d1 ([] ++ [⟨0, encS (supL fx2 12)⟩]) fx3) := l0
  have N4 : Hid (([] ++ [⟨0, encS (supL fx2 12)⟩] : List Wr).length = 1) := rfl
  clear l0 t0 H3
  generalize ([] ++ [⟨0, encS (supL fx2 12)⟩] : List Wr) = ws4 at *
  go_wp2_with fail
  have l0z : Hid (_) := Ga8.out
  refine (free_B Ga8.out (by rw [N4.out]; decide)).mono ?_
  rintro e w9 ⟨rfl, l0, t0⟩
  rw [show fx3.mark - fx3.tail = 2 from rfl]
  have B9 : Hid (Below w.heap.size w w9) := B8.out.trans (t0.low.mono hbase)
  clear Ga8
  have X9 : Hid (R.RAt 62 w9 w5.heap.size (imgR fx0 2 (v9 5))) := t0.other _ _ _ _ (by decide) X8.out
  clear X8
  clear B8
  have H5 : Hid (Holds fx4 [] (settle (fun _ => true) ws4 d1) 10 [imgR fx0 2 (v9 5), comR fx1]) := Holds.free (Holds.flush H4.out fx3_ok (LB.len l0z.out).1 (LB.len l0z.out).2) fx3_ok
  have Ga9 : Hid (LB w9 w1.heap.size L p (settle (fun _ => true) ws4 d1) [] fx4) := l0
  clear l0 t0 H4 N4 l0z
  generalize (settle (fun _ => true) ws4 d1) = d2 at *
  go_wp2_with fail
  refine (told_B Ga9.out (HT.out.later B9.out) 9 (by decide) (by decide)).mono ?_
  rintro e w10 ⟨v, rfl, o0, b0⟩
  have B10 : Hid (Below w.heap.size w w10) := below_then B9.out b0
  have Ga10 : Hid (LB w10 w1.heap.size L p d2 [] fx4) := LD.later Ga9.out b0
  clear Ga9
  have X10 : Hid (R.RAt 62 w10 w5.heap.size (imgR fx0 2 (v9 5))) := R.RAt.later X9.out b0
  clear X9
  clear B9
  rw [H5.out.all (frG_ok fx3_ok)] at o0
  obtain ⟨q, cap, rfl, -, -⟩ := own_slice o0
  clear o0 b0
  have L10 : Hid (_) := R.RAt.load31 X10.out (v9_len 5)
  have U10 : Hid (_) := build_v w10 5
  have V10 : Hid (_) := build_rec4 w10 10 2 (v9 5) (v9_len 5)
  have E10 : Hid ((binOp .eql 62 (.agg (R.rcells (imgR fx0 2 (v9 5))).toArray) (.agg (R.rcells ⟨1, 10, 2, v9 5, 0⟩).toArray)).run Tryz.prog w10 = .ok (.bool true) w10) := by
    have := R.eql31 w10 (imgR fx0 2 (v9 5)) ⟨1, 10, 2, v9 5, 0⟩ (v9_len 5) (v9_len 5)
    rwa [show R.recB (imgR fx0 2 (v9 5)) ⟨1, 10, 2, v9 5, 0⟩ = true from R.recB_same _] at this
  rw [show (([imgR fx0 2 (v9 5), comR fx1].drop (fx4.tail - 10).toNat).take (9 : Int).toNat).length = 0 from rfl]
  go_wp2_with ((with_reducible refine at_ops ?_); (first | (refine wpList_load_is (by rfl) 62 rfl rfl L10.out ?_) | (refine wpList_build_is (vs := [(0, .int .u8 5)]) (by rfl) 49 rfl (by rfl) U10.out ?_) | (refine wpList_build_is (vs := [(0, .int .i64 1), (1, .int .u64 10), (2, .int .i64 2), (3, .agg (U8 (v9 5)).toArray)]) (by rfl) 62 rfl (by rfl) V10.out ?_) | (refine wpList_eql_is (by rfl) 62 rfl rfl rfl R.eqg31 E10.out ?_)); simp only [Act.put, List.setIfInBounds_toArray, List.set_cons_zero, List.set_cons_succ])
  refine (ltail_at Ga10.out.log).mono ?_
  rintro e wz ⟨rfl, rfl⟩
  rw [show fx4.tail = 12 from rfl]
  go_wp2_with fail
  refine (lend_at Ga10.out.log).mono ?_
  rintro e wz ⟨rfl, rfl⟩
  rw [show fx4.fin = 12 from rfl]
  go_wp2_with fail
  refine (lmarked_at Ga10.out.log).mono ?_
  rintro e wz ⟨rfl, rfl⟩
  rw [show fx4.mark = 12 from rfl]
  go_wp2_with fail
  refine (lused_at Ga10.out.log Ga10.out.ok).mono ?_
  rintro e wz ⟨rfl, rfl⟩
  rw [show fx4.fin - fx4.tail = 0 from rfl]
  go_wp2_with fail
  go_ret
  exact ⟨rfl, B10.out⟩
end Go.Proofs.YtmcpjokbkkfgfaaGreatDoor

/-
  Layer 9: none: a log over no disk.
-/
namespace Go.Proofs.YtmcpjokbkkfgfaaGreatDoor
open Go.RowKit


theorem allR_none (t : Int) (n : Nat) (k : Int) : (allR (fun _ => (R.rec0, 1)) t n).take k.toNat = [] := by
  cases n <;> simp [allR]
set_option maxHeartbeats 1000000 in
set_option maxRecDepth 100000 in
theorem none_low {w : World} {P i : Nat} (hi2 : i < 2) {S T : Nat → Prop} {L x K y : Nat} {d : List Int} {ws : List Wr} {g : Lg} {bq : Int} (hc0 : w.cell? ⟨P, i, none⟩ = some (.pointer (some ⟨L, 0, none⟩))) (hc2 : w.cell? ⟨P, 4 + i, none⟩ = some (.pointer (some ⟨K, 0, none⟩)))
    (hl : LD w S L x d ws g) (hr : RL w T K y d ws g bq) (kd wh b : Int) (v : List Int) (hv : v.length = 32) (pos : Int) (keep data : Value) :
    Calls Tryz.prog 35 #[.pointer (some ⟨P, 0, none⟩), .int .i64 i, .agg (ocells kd wh b v pos keep data).toArray] w fun r w' => r = .returned (.bool true) ∧ Below w.heap.size w w' := by
  obtain ⟨w0, hw0⟩ : ∃ x, x = w.alloc (.cells (ocells kd wh b v pos keep data).toArray 53) := ⟨_, rfl⟩
  have ew := hw0.symm
  have b0 : Below w.heap.size w w0 := by rw [hw0]; exact below_alloc w _
  have HO0 : Hid (OAt w0 w.heap.size kd wh b v pos keep data) := by rw [hw0]; exact LAt.new 53 w _
  have HLL : Hid (GAt w0 L (some ⟨x, 0, none⟩) g) := LAt.later hl.log b0
  have HRR : Hid (HAt w0 K (some ⟨y, 0, none⟩) g bq) := LAt.later hr.log b0
  have HB0 : Hid (Below w.heap.size w w0) := b0
  have HOk : Hid g.Ok := hl.ok
  have HV : Hid (v.length = 32) := hv
  have c0 : w0.cell? ⟨P, i, none⟩ = some (.pointer (some ⟨L, 0, none⟩)) := (b0.cell (p := ⟨P, i, none⟩) (World.block_lt_of_cell? w _ hc0)).trans hc0
  have c2 : w0.cell? ⟨P, 4 + i, none⟩ = some (.pointer (some ⟨K, 0, none⟩)) := (b0.cell (p := ⟨P, 4 + i, none⟩) (World.block_lt_of_cell? w _ hc2)).trans hc2
  have M1 : Hid (P < w0.heap.size) := World.block_lt_of_cell? w0 _ c0
  have i0 : (0 : Int) ≤ (i : Int) := by omega
  have i2 : (i : Int) < 2 := by omega
  clear hw0 hl hr hv b0 hc0 hc2
  go_enter Tryz.func35, Tryz.ntmps35
  go_wp2_with fail
  clear ew
  refine wp_region_noPanic ?_
  refine wp_region_held_drew (S := fun w' => Below w0.heap.size w0 w') (by kernel_rfl) (below_drawn 1) (fun hHeld => ?_)
  have Dd : Hid (Below w0.heap.size w0 w0.drew) := hHeld
  generalize w0.drew = wd at *
  refine wpAnyH_take (i := 0) (v := ?va1) (by simp; rfl) (by kernel_rfl) (by kernel_rfl) (by kernel_rfl) (fun _ _ _ h => h) (Or.inl ⟨by rfl, ?ya1⟩) hHeld ?ra1
  case ya1 => intro w hSw; clear hSw; go_simp; with_reducible rfl
  simp only [Act.put, List.setIfInBounds_toArray, List.set_cons_zero, List.set_cons_succ]
  refine wpAnyH_take (i := 1) (v := ?va2) (by simp; rfl) (by kernel_rfl) (by kernel_rfl) (by kernel_rfl) (fun _ _ _ h => h) (Or.inl ⟨by rfl, ?ya2⟩) hHeld ?ra2
  case ya2 => intro w hSw; clear hSw; go_simp; with_reducible rfl
  simp only [Act.put, List.setIfInBounds_toArray, List.set_cons_zero, List.set_cons_succ]
  refine wpAnyH_take (i := 2) (v := ?va3) (by simp; rfl) (by kernel_rfl) (by kernel_rfl) (by kernel_rfl) (fun _ _ _ h => h) (Or.inl ⟨by rfl, ?ya3⟩) hHeld ?ra3
  case ya3 => intro w hSw; clear hSw; go_simp; with_reducible rfl
  simp only [Act.put, List.setIfInBounds_toArray, List.set_cons_zero, List.set_cons_succ]
  refine wpAnyH_take (i := 3) (v := ?va4) (by simp; rfl) (by kernel_rfl) (by kernel_rfl) (by kernel_rfl) (fun _ _ _ h => h) (Or.inl ⟨by rfl, ?ya4⟩) hHeld ?ra4
  case ya4 => intro w hSw; clear hSw; go_simp; with_reducible rfl
  simp only [Act.put, List.setIfInBounds_toArray, List.set_cons_zero, List.set_cons_succ]
  refine wpAnyH_take (i := 4) (v := ?va5) (by simp; rfl) (by kernel_rfl) (by kernel_rfl) (by kernel_rfl) (fun _ _ _ h => h) (Or.inl ⟨by rfl, ?ya5⟩) hHeld ?ra5
  case ya5 => intro w hSw; clear hSw; go_simp; with_reducible rfl
  simp only [Act.put, List.setIfInBounds_toArray, List.set_cons_zero, List.set_cons_succ]
  refine wpAnyH_take (i := 5) (v := ?va6) (by simp; rfl) (by kernel_rfl) (by kernel_rfl) (by kernel_rfl) (fun _ _ _ h => h) (Or.inl ⟨by rfl, ?ya6⟩) hHeld ?ra6
  case ya6 => intro w hSw; have z := (hSw.cell (p := ⟨P, i, none⟩) M1.out).trans c0; clear hSw; go_simp; with_reducible rfl
  simp only [Act.put, List.setIfInBounds_toArray, List.set_cons_zero, List.set_cons_succ]
  refine wpAnyH_take (i := 7) (v := ?va7) (by simp; rfl) (by kernel_rfl) (by kernel_rfl) (by kernel_rfl) (fun _ _ _ h => h) (Or.inl ⟨by rfl, ?ya7⟩) hHeld ?ra7
  case ya7 => intro w hSw; clear hSw; go_simp; with_reducible rfl
  simp only [Act.put, List.setIfInBounds_toArray, List.set_cons_zero, List.set_cons_succ]
  refine wpAnyH_take (i := 8) (v := ?va8) (by simp; rfl) (by kernel_rfl) (by kernel_rfl) (by kernel_rfl) (fun _ _ _ h => h) (Or.inl ⟨by rfl, ?ya8⟩) hHeld ?ra8
  case ya8 => intro w hSw; clear hSw; go_simp; with_reducible rfl
  simp only [Act.put, List.setIfInBounds_toArray, List.set_cons_zero, List.set_cons_succ]
  refine wpAnyH_take (i := 9) (v := ?va9) (by simp; rfl) (by kernel_rfl) (by kernel_rfl) (by kernel_rfl) (fun _ _ _ h => h) (Or.inl ⟨by rfl, ?ya9⟩) hHeld ?ra9
  case ya9 => intro w hSw; clear hSw; go_simp; with_reducible rfl
  simp only [Act.put, List.setIfInBounds_toArray, List.set_cons_zero, List.set_cons_succ]
  refine wpAnyH_take (i := 10) (v := ?va10) (by simp; rfl) (by kernel_rfl) (by kernel_rfl) (by kernel_rfl) (fun _ _ _ h => h) (Or.inl ⟨by rfl, ?ya10⟩) hHeld ?ra10
  case ya10 => intro w hSw; clear hSw; go_simp; with_reducible rfl
  simp only [Act.put, List.setIfInBounds_toArray, List.set_cons_zero, List.set_cons_succ]
  refine wpAnyH_take (i := 11) (v := ?va11) (by simp; rfl) (by kernel_rfl) (by kernel_rfl) (by kernel_rfl) (fun _ _ _ h => h) (Or.inl ⟨by rfl, ?ya11⟩) hHeld ?ra11
  case ya11 => intro w hSw; clear hSw; go_simp; with_reducible rfl
  simp only [Act.put, List.setIfInBounds_toArray, List.set_cons_zero, List.set_cons_succ]
  refine wpAnyH_take (i := 12) (v := ?va12) (by simp; rfl) (by kernel_rfl) (by kernel_rfl) (by kernel_rfl) (fun _ _ _ h => h) (Or.inl ⟨by rfl, ?ya12⟩) hHeld ?ra12
  case ya12 => intro w hSw; have z := (hSw.cell (p := ⟨P, 4 + i, none⟩) M1.out).trans c2; clear hSw; go_simp; with_reducible rfl
  simp only [Act.put, List.setIfInBounds_toArray, List.set_cons_zero, List.set_cons_succ]
  refine wpAnyH_ready (rs := [6]) (by kernel_rfl) (by simp) ?_
  refine AllReadyH.cons (by simp; rfl) (fun Kc hKc => ?_) AllReadyH.nil
  go_simp
  refine (over_at (LAt.later HLL.out Dd.out) none).mono ?_
  rintro e1 wx1 ⟨K1, rfl, hk1, hG, bx⟩
  have HG1 : Hid (GAt wx1 K1 none g) := hG
  have Dx1 : Hid (Below w0.heap.size w0 wx1) := below_then Dd.out bx
  clear hG hk1 bx Dd hHeld
  refine hKc.out _ _ Dx1.out (fun hHeld => ?_)
  clear hKc Kc
  refine wpAnyH_ready (rs := [13]) (by kernel_rfl) (by simp) ?_
  refine AllReadyH.cons (by simp; rfl) (fun Kc hKc => ?_) AllReadyH.nil
  go_simp
  refine (rover_at (LAt.later HRR.out Dx1.out) none).mono ?_
  rintro e1 wx2 ⟨K2, rfl, hk1, hG, bx⟩
  have HH2 : Hid (HAt wx2 K2 none g bq) := hG
  have HG2 : Hid (GAt wx2 K1 none g) := LAt.later HG1.out bx
  clear HG1
  have Dx2 : Hid (Below w0.heap.size w0 wx2) := below_then Dx1.out bx
  clear hG hk1 bx Dx1 hHeld
  refine hKc.out _ _ Dx2.out (fun hHeld => ?_)
  clear hKc Kc
  refine wpAnyH_take (i := 14) (v := ?va13) (by simp; rfl) (by kernel_rfl) (by kernel_rfl) (by kernel_rfl) (fun _ _ _ h => h) (Or.inl ⟨by rfl, ?ya13⟩) hHeld ?ra13
  case ya13 => intro w hSw; clear hSw; go_simp; with_reducible rfl
  simp only [Act.put, List.setIfInBounds_toArray, List.set_cons_zero, List.set_cons_succ]
  refine wpAnyH_take (i := 15) (v := ?va14) (by simp; rfl) (by kernel_rfl) (by kernel_rfl) (by kernel_rfl) (fun _ _ _ h => h) (Or.inl ⟨by rfl, ?ya14⟩) hHeld ?ra14
  case ya14 => intro w hSw; clear hSw; go_simp; with_reducible rfl
  simp only [Act.put, List.setIfInBounds_toArray, List.set_cons_zero, List.set_cons_succ]
  clear hHeld
  refine wpAnyH_done (by kernel_rfl) (NoPanic.normal ?_) _
  have G1 : Hid (GAt wx2 K1 none g) := HG2.out
  have H1 : Hid (HAt wx2 K2 none g bq) := HH2.out
  have B1 : Hid (Below w.heap.size w wx2) := below_then HB0.out Dx2.out
  have O1 : Hid (OAt wx2 w.heap.size kd wh b v pos keep data) := LAt.later HO0.out Dx2.out
  clear HG2 HH2 Dx2 HB0 HO0 c0 c2 HLL HRR M1
  generalize wx2 = w1 at *
  have LV : Hid (_) := OAt.loadV O1.out HV.out
  have cb := OAt.block O1.out
  go_wp2_with ((with_reducible refine at_ops ?_); (refine wpList_load_is (by rfl) 49 rfl rfl LV.out ?_); simp only [Act.put, List.setIfInBounds_toArray, List.set_cons_zero, List.set_cons_succ])
  clear LV cb
  refine (image_none G1.out b v).mono ?_
  rintro r2 w2 ⟨rfl, b2⟩
  have G2 : Hid (GAt w2 K1 none g) := LAt.later G1.out b2
  have H2 : Hid (HAt w2 K2 none g bq) := LAt.later H1.out b2
  have B2 : Hid (Below w.heap.size w w2) := below_then B1.out b2
  have O2 : Hid (OAt w2 w.heap.size kd wh b v pos keep data) := LAt.later O1.out b2
  clear G1 H1 B1 O1 b2
  go_wp2_with fail
  refine (commit_none G2.out).mono ?_
  rintro r3 w3 ⟨rfl, rfl⟩
  go_wp2_with fail
  refine (wflush_none G2.out).mono ?_
  rintro r3 w3 ⟨rfl, rfl⟩
  have cp := OAt.pos O2.out HV.out
  go_wp2_with fail
  refine (mark_none G2.out pos).mono ?_
  rintro r3 w3 ⟨rfl, rfl⟩
  go_wp2_with fail
  refine (free_none G2.out).mono ?_
  rintro r3 w3 ⟨rfl, rfl⟩
  go_wp2_with fail
  refine (wread_none G2.out pos).mono ?_
  rintro r3 w3 ⟨rfl, b3⟩
  have A5 : Hid (_) := R.alloc31 w3
  have T5 : Hid (_) := R.store_new R.size31 w3 R.rec0 R.rec0_len
  obtain ⟨w6, hw6⟩ : ∃ x, x = w3.alloc (.cells (R.rcells R.rec0).toArray 62) := ⟨_, rfl⟩
  rw [← hw6] at T5
  have b6 : Below w2.heap.size w2 w6 := by rw [hw6]; exact below_then b3 (below_alloc w3 _)
  rw [← hw6] at A5
  have ew6 := hw6.symm
  have G6 : Hid (GAt w6 K1 none g) := LAt.later G2.out b6
  have H6 : Hid (HAt w6 K2 none g bq) := LAt.later H2.out b6
  have B6 : Hid (Below w.heap.size w w6) := below_then B2.out b6
  clear cp hw6 b3 b6 G2 H2 B2 O2
  go_wp2_with ((with_reducible refine at_ops ?_); (first | (refine wpList_alloc_is (by rfl) 62 rfl A5.out ?_) | (refine wpList_store_is (by rfl) 62 rfl rfl rfl T5.out ?_)); simp only [Act.put, List.setIfInBounds_toArray, List.set_cons_zero, List.set_cons_succ])
  clear A5 T5 ew6
  refine (told_any (GAt.rdr G6.out HOk.out) 9 (by decide) (by decide)).mono ?_
  rintro r7 wz ⟨vz, rfl, hoz, bz⟩
  rw [allR_none] at hoz
  obtain ⟨pz, cz, rfl, -⟩ := own_slice hoz
  have HGz : Hid (GAt wz K1 none g) := LAt.later G6.out bz
  have HHz : Hid (HAt wz K2 none g bq) := LAt.later H6.out bz
  have HBz : Hid (Below w.heap.size w wz) := below_then B6.out bz
  clear hoz bz G6 H6 B6
  go_wp2_with fail
  refine wp_region_noPanic ?_
  refine wp_region_held_drew (S := fun w' => Below wz.heap.size wz w') (by kernel_rfl) (below_drawn 1) (fun hHeld => ?_)
  have Dd : Hid (Below wz.heap.size wz wz.drew) := hHeld
  generalize wz.drew = wd at *
  refine wpAnyH_take (i := 0) (v := ?va15) (by simp; rfl) (by kernel_rfl) (by kernel_rfl) (by kernel_rfl) (fun _ _ _ h => h) (Or.inl ⟨by rfl, ?ya15⟩) hHeld ?ra15
  case ya15 => intro w hSw; clear hSw; go_simp; with_reducible rfl
  simp only [Act.put, List.setIfInBounds_toArray, List.set_cons_zero, List.set_cons_succ]
  refine wpAnyH_take (i := 1) (v := ?va16) (by simp; rfl) (by kernel_rfl) (by kernel_rfl) (by kernel_rfl) (fun _ _ _ h => h) (Or.inl ⟨by rfl, ?ya16⟩) hHeld ?ra16
  case ya16 => intro w hSw; clear hSw; go_simp; with_reducible rfl
  simp only [Act.put, List.setIfInBounds_toArray, List.set_cons_zero, List.set_cons_succ]
  refine wpAnyH_take (i := 2) (v := ?va17) (by simp; rfl) (by kernel_rfl) (by kernel_rfl) (by kernel_rfl) (fun _ _ _ h => h) (Or.inl ⟨by rfl, ?ya17⟩) hHeld ?ra17
  case ya17 => intro w hSw; clear hSw; go_simp; with_reducible rfl
  simp only [Act.put, List.setIfInBounds_toArray, List.set_cons_zero, List.set_cons_succ]
  refine wpAnyH_take (i := 3) (v := ?va18) (by simp; rfl) (by kernel_rfl) (by kernel_rfl) (by kernel_rfl) (fun _ _ _ h => h) (Or.inl ⟨by rfl, ?ya18⟩) hHeld ?ra18
  case ya18 => intro w hSw; clear hSw; go_simp; with_reducible rfl
  simp only [Act.put, List.setIfInBounds_toArray, List.set_cons_zero, List.set_cons_succ]
  refine wpAnyH_take (i := 4) (v := ?va19) (by simp; rfl) (by kernel_rfl) (by kernel_rfl) (by kernel_rfl) (fun _ _ _ h => h) (Or.inl ⟨by rfl, ?ya19⟩) hHeld ?ra19
  case ya19 => intro w hSw; clear hSw; go_simp; with_reducible rfl
  simp only [Act.put, List.setIfInBounds_toArray, List.set_cons_zero, List.set_cons_succ]
  refine wpAnyH_take (i := 5) (v := ?va20) (by simp; rfl) (by kernel_rfl) (by kernel_rfl) (by kernel_rfl) (fun _ _ _ h => h) (Or.inl ⟨by rfl, ?ya20⟩) hHeld ?ra20
  case ya20 => intro w hSw; clear hSw; go_simp; with_reducible rfl
  simp only [Act.put, List.setIfInBounds_toArray, List.set_cons_zero, List.set_cons_succ]
  refine wpAnyH_take (i := 6) (v := ?va21) (by simp; rfl) (by kernel_rfl) (by kernel_rfl) (by kernel_rfl) (fun _ _ _ h => h) (Or.inl ⟨by rfl, ?ya21⟩) hHeld ?ra21
  case ya21 => intro w hSw; clear hSw; go_simp; with_reducible rfl
  simp only [Act.put, List.setIfInBounds_toArray, List.set_cons_zero, List.set_cons_succ]
  refine wpAnyH_take (i := 7) (v := ?va22) (by simp; rfl) (by kernel_rfl) (by kernel_rfl) (by kernel_rfl) (fun _ _ _ h => h) (Or.inl ⟨by rfl, ?ya22⟩) hHeld ?ra22
  case ya22 => intro w hSw; clear hSw; go_simp; with_reducible rfl
  simp only [Act.put, List.setIfInBounds_toArray, List.set_cons_zero, List.set_cons_succ]
  refine wpAnyH_take (i := 8) (v := ?va23) (by simp; rfl) (by kernel_rfl) (by kernel_rfl) (by kernel_rfl) (fun _ _ _ h => h) (Or.inl ⟨by rfl, ?ya23⟩) hHeld ?ra23
  case ya23 => intro w hSw; clear hSw; go_simp; with_reducible rfl
  simp only [Act.put, List.setIfInBounds_toArray, List.set_cons_zero, List.set_cons_succ]
  refine wpAnyH_take (i := 9) (v := ?va24) (by simp; rfl) (by kernel_rfl) (by kernel_rfl) (by kernel_rfl) (fun _ _ _ h => h) (Or.inl ⟨by rfl, ?ya24⟩) hHeld ?ra24
  case ya24 => intro w hSw; clear hSw; go_simp; with_reducible rfl
  simp only [Act.put, List.setIfInBounds_toArray, List.set_cons_zero, List.set_cons_succ]
  refine wpAnyH_take (i := 10) (v := ?va25) (by simp; rfl) (by kernel_rfl) (by kernel_rfl) (by kernel_rfl) (fun _ _ _ h => h) (Or.inl ⟨by rfl, ?ya25⟩) hHeld ?ra25
  case ya25 => intro w hSw; clear hSw; go_simp; with_reducible rfl
  simp only [Act.put, List.setIfInBounds_toArray, List.set_cons_zero, List.set_cons_succ]
  refine wpAnyH_take (i := 12) (v := ?va26) (by simp; rfl) (by kernel_rfl) (by kernel_rfl) (by kernel_rfl) (fun _ _ _ h => h) (Or.inl ⟨by rfl, ?ya26⟩) hHeld ?ra26
  case ya26 => intro w hSw; clear hSw; go_simp; with_reducible rfl
  simp only [Act.put, List.setIfInBounds_toArray, List.set_cons_zero, List.set_cons_succ]
  refine wpAnyH_take (i := 13) (v := ?va27) (by simp; rfl) (by kernel_rfl) (by kernel_rfl) (by kernel_rfl) (fun _ _ _ h => h) (Or.inl ⟨by rfl, ?ya27⟩) hHeld ?ra27
  case ya27 => intro w hSw; clear hSw; go_simp; with_reducible rfl
  simp only [Act.put, List.setIfInBounds_toArray, List.set_cons_zero, List.set_cons_succ]
  refine wpAnyH_take (i := 14) (v := ?va28) (by simp; rfl) (by kernel_rfl) (by kernel_rfl) (by kernel_rfl) (fun _ _ _ h => h) (Or.inl ⟨by rfl, ?ya28⟩) hHeld ?ra28
  case ya28 => intro w hSw; clear hSw; go_simp; with_reducible rfl
  simp only [Act.put, List.setIfInBounds_toArray, List.set_cons_zero, List.set_cons_succ]
  refine wpAnyH_take (i := 15) (v := ?va29) (by simp; rfl) (by kernel_rfl) (by kernel_rfl) (by kernel_rfl) (fun _ _ _ h => h) (Or.inl ⟨by rfl, ?ya29⟩) hHeld ?ra29
  case ya29 => intro w hSw; have z := HAt.c7 (LAt.later HHz.out hSw); clear hSw; go_simp; with_reducible rfl
  simp only [Act.put, List.setIfInBounds_toArray, List.set_cons_zero, List.set_cons_succ]
  refine wpAnyH_ready (rs := [11]) (by kernel_rfl) (by simp) ?_
  refine AllReadyH.cons (by simp; rfl) (fun Kc hKc => ?_) AllReadyH.nil
  go_simp
  refine (ltail_at (LAt.later HGz.out Dd.out)).mono ?_
  rintro eu wq ⟨rfl, ew⟩
  subst ew
  clear hHeld
  refine hKc.out _ _ Dd.out (fun hHeld => ?_)
  clear hKc Kc
  refine wpAnyH_take (i := 16) (v := ?va30) (by simp; rfl) (by kernel_rfl) (by kernel_rfl) (by kernel_rfl) (fun _ _ _ h => h) (Or.inl ⟨by rfl, ?ya30⟩) hHeld ?ra30
  case ya30 => intro w hSw; clear hSw; go_simp; with_reducible rfl
  simp only [Act.put, List.setIfInBounds_toArray, List.set_cons_zero, List.set_cons_succ]
  refine wpAnyH_take (i := 17) (v := ?va31) (by simp; rfl) (by kernel_rfl) (by kernel_rfl) (by kernel_rfl) (fun _ _ _ h => h) (Or.inl ⟨by rfl, ?ya31⟩) hHeld ?ra31
  case ya31 => intro w hSw; clear hSw; go_simp; with_reducible rfl
  simp only [Act.put, List.setIfInBounds_toArray, List.set_cons_zero, List.set_cons_succ]
  refine wpAnyH_take (i := 18) (v := ?va32) (by simp; rfl) (by kernel_rfl) (by kernel_rfl) (by kernel_rfl) (fun _ _ _ h => h) (Or.inl ⟨by rfl, ?ya32⟩) hHeld ?ra32
  case ya32 => intro w hSw; clear hSw; go_simp; with_reducible rfl
  simp only [Act.put, List.setIfInBounds_toArray, List.set_cons_zero, List.set_cons_succ]
  refine wpAnyH_take (i := 19) (v := ?va33) (by simp; rfl) (by kernel_rfl) (by kernel_rfl) (by kernel_rfl) (fun _ _ _ h => h) (Or.inl ⟨by rfl, ?ya33⟩) hHeld ?ra33
  case ya33 => intro w hSw; clear hSw; go_simp; with_reducible rfl
  simp only [Act.put, List.setIfInBounds_toArray, List.set_cons_zero, List.set_cons_succ]
  refine wpAnyH_take (i := 21) (v := ?va34) (by simp; rfl) (by kernel_rfl) (by kernel_rfl) (by kernel_rfl) (fun _ _ _ h => h) (Or.inl ⟨by rfl, ?ya34⟩) hHeld ?ra34
  case ya34 => intro w hSw; clear hSw; go_simp; with_reducible rfl
  simp only [Act.put, List.setIfInBounds_toArray, List.set_cons_zero, List.set_cons_succ]
  refine wpAnyH_take (i := 22) (v := ?va35) (by simp; rfl) (by kernel_rfl) (by kernel_rfl) (by kernel_rfl) (fun _ _ _ h => h) (Or.inl ⟨by rfl, ?ya35⟩) hHeld ?ra35
  case ya35 => intro w hSw; clear hSw; go_simp; with_reducible rfl
  simp only [Act.put, List.setIfInBounds_toArray, List.set_cons_zero, List.set_cons_succ]
  refine wpAnyH_take (i := 23) (v := ?va36) (by simp; rfl) (by kernel_rfl) (by kernel_rfl) (by kernel_rfl) (fun _ _ _ h => h) (Or.inl ⟨by rfl, ?ya36⟩) hHeld ?ra36
  case ya36 => intro w hSw; clear hSw; go_simp; with_reducible rfl
  simp only [Act.put, List.setIfInBounds_toArray, List.set_cons_zero, List.set_cons_succ]
  refine wpAnyH_take (i := 24) (v := ?va37) (by simp; rfl) (by kernel_rfl) (by kernel_rfl) (by kernel_rfl) (fun _ _ _ h => h) (Or.inl ⟨by rfl, ?ya37⟩) hHeld ?ra37
  case ya37 => intro w hSw; have z := HAt.c8 (LAt.later HHz.out hSw); clear hSw; go_simp; with_reducible rfl
  simp only [Act.put, List.setIfInBounds_toArray, List.set_cons_zero, List.set_cons_succ]
  refine wpAnyH_ready (rs := [20]) (by kernel_rfl) (by simp) ?_
  refine AllReadyH.cons (by simp; rfl) (fun Kc hKc => ?_) AllReadyH.nil
  go_simp
  refine (lend_at (LAt.later HGz.out Dd.out)).mono ?_
  rintro eu wq ⟨rfl, ew⟩
  subst ew
  clear hHeld
  refine hKc.out _ _ Dd.out (fun hHeld => ?_)
  clear hKc Kc
  refine wpAnyH_take (i := 25) (v := ?va38) (by simp; rfl) (by kernel_rfl) (by kernel_rfl) (by kernel_rfl) (fun _ _ _ h => h) (Or.inl ⟨by rfl, ?ya38⟩) hHeld ?ra38
  case ya38 => intro w hSw; clear hSw; go_simp; with_reducible rfl
  simp only [Act.put, List.setIfInBounds_toArray, List.set_cons_zero, List.set_cons_succ]
  refine wpAnyH_take (i := 26) (v := ?va39) (by simp; rfl) (by kernel_rfl) (by kernel_rfl) (by kernel_rfl) (fun _ _ _ h => h) (Or.inl ⟨by rfl, ?ya39⟩) hHeld ?ra39
  case ya39 => intro w hSw; clear hSw; go_simp; with_reducible rfl
  simp only [Act.put, List.setIfInBounds_toArray, List.set_cons_zero, List.set_cons_succ]
  refine wpAnyH_take (i := 27) (v := ?va40) (by simp; rfl) (by kernel_rfl) (by kernel_rfl) (by kernel_rfl) (fun _ _ _ h => h) (Or.inl ⟨by rfl, ?ya40⟩) hHeld ?ra40
  case ya40 => intro w hSw; clear hSw; go_simp; with_reducible rfl
  simp only [Act.put, List.setIfInBounds_toArray, List.set_cons_zero, List.set_cons_succ]
  refine wpAnyH_take (i := 28) (v := ?va41) (by simp; rfl) (by kernel_rfl) (by kernel_rfl) (by kernel_rfl) (fun _ _ _ h => h) (Or.inl ⟨by rfl, ?ya41⟩) hHeld ?ra41
  case ya41 => intro w hSw; clear hSw; go_simp; with_reducible rfl
  simp only [Act.put, List.setIfInBounds_toArray, List.set_cons_zero, List.set_cons_succ]
  refine wpAnyH_take (i := 30) (v := ?va42) (by simp; rfl) (by kernel_rfl) (by kernel_rfl) (by kernel_rfl) (fun _ _ _ h => h) (Or.inl ⟨by rfl, ?ya42⟩) hHeld ?ra42
  case ya42 => intro w hSw; clear hSw; go_simp; with_reducible rfl
  simp only [Act.put, List.setIfInBounds_toArray, List.set_cons_zero, List.set_cons_succ]
  refine wpAnyH_take (i := 31) (v := ?va43) (by simp; rfl) (by kernel_rfl) (by kernel_rfl) (by kernel_rfl) (fun _ _ _ h => h) (Or.inl ⟨by rfl, ?ya43⟩) hHeld ?ra43
  case ya43 => intro w hSw; clear hSw; go_simp; with_reducible rfl
  simp only [Act.put, List.setIfInBounds_toArray, List.set_cons_zero, List.set_cons_succ]
  refine wpAnyH_take (i := 32) (v := ?va44) (by simp; rfl) (by kernel_rfl) (by kernel_rfl) (by kernel_rfl) (fun _ _ _ h => h) (Or.inl ⟨by rfl, ?ya44⟩) hHeld ?ra44
  case ya44 => intro w hSw; clear hSw; go_simp; with_reducible rfl
  simp only [Act.put, List.setIfInBounds_toArray, List.set_cons_zero, List.set_cons_succ]
  refine wpAnyH_take (i := 33) (v := ?va45) (by simp; rfl) (by kernel_rfl) (by kernel_rfl) (by kernel_rfl) (fun _ _ _ h => h) (Or.inl ⟨by rfl, ?ya45⟩) hHeld ?ra45
  case ya45 => intro w hSw; have z := HAt.c9 (LAt.later HHz.out hSw); clear hSw; go_simp; with_reducible rfl
  simp only [Act.put, List.setIfInBounds_toArray, List.set_cons_zero, List.set_cons_succ]
  refine wpAnyH_ready (rs := [29]) (by kernel_rfl) (by simp) ?_
  refine AllReadyH.cons (by simp; rfl) (fun Kc hKc => ?_) AllReadyH.nil
  go_simp
  refine (lmarked_at (LAt.later HGz.out Dd.out)).mono ?_
  rintro eu wq ⟨rfl, ew⟩
  subst ew
  clear hHeld
  refine hKc.out _ _ Dd.out (fun hHeld => ?_)
  clear hKc Kc
  refine wpAnyH_take (i := 34) (v := ?va46) (by simp; rfl) (by kernel_rfl) (by kernel_rfl) (by kernel_rfl) (fun _ _ _ h => h) (Or.inl ⟨by rfl, ?ya46⟩) hHeld ?ra46
  case ya46 => intro w hSw; clear hSw; go_simp; with_reducible rfl
  simp only [Act.put, List.setIfInBounds_toArray, List.set_cons_zero, List.set_cons_succ]
  refine wpAnyH_take (i := 35) (v := ?va47) (by simp; rfl) (by kernel_rfl) (by kernel_rfl) (by kernel_rfl) (fun _ _ _ h => h) (Or.inl ⟨by rfl, ?ya47⟩) hHeld ?ra47
  case ya47 => intro w hSw; clear hSw; go_simp; with_reducible rfl
  simp only [Act.put, List.setIfInBounds_toArray, List.set_cons_zero, List.set_cons_succ]
  refine wpAnyH_take (i := 36) (v := ?va48) (by simp; rfl) (by kernel_rfl) (by kernel_rfl) (by kernel_rfl) (fun _ _ _ h => h) (Or.inl ⟨by rfl, ?ya48⟩) hHeld ?ra48
  case ya48 => intro w hSw; clear hSw; go_simp; with_reducible rfl
  simp only [Act.put, List.setIfInBounds_toArray, List.set_cons_zero, List.set_cons_succ]
  refine wpAnyH_take (i := 37) (v := ?va49) (by simp; rfl) (by kernel_rfl) (by kernel_rfl) (by kernel_rfl) (fun _ _ _ h => h) (Or.inl ⟨by rfl, ?ya49⟩) hHeld ?ra49
  case ya49 => intro w hSw; clear hSw; go_simp; with_reducible rfl
  simp only [Act.put, List.setIfInBounds_toArray, List.set_cons_zero, List.set_cons_succ]
  refine wpAnyH_take (i := 39) (v := ?va50) (by simp; rfl) (by kernel_rfl) (by kernel_rfl) (by kernel_rfl) (fun _ _ _ h => h) (Or.inl ⟨by rfl, ?ya50⟩) hHeld ?ra50
  case ya50 => intro w hSw; clear hSw; go_simp; with_reducible rfl
  simp only [Act.put, List.setIfInBounds_toArray, List.set_cons_zero, List.set_cons_succ]
  refine wpAnyH_ready (rs := [38]) (by kernel_rfl) (by simp) ?_
  refine AllReadyH.cons (by simp; rfl) (fun Kc hKc => ?_) AllReadyH.nil
  go_simp
  refine (lused_at (LAt.later HGz.out Dd.out) HOk.out).mono ?_
  rintro eu wq ⟨rfl, ew⟩
  subst ew
  clear hHeld
  refine hKc.out _ _ Dd.out (fun hHeld => ?_)
  clear hKc Kc
  refine wpAnyH_ready (rs := [40]) (by kernel_rfl) (by simp) ?_
  refine AllReadyH.cons (by simp; rfl) (fun Kc hKc => ?_) AllReadyH.nil
  go_simp
  refine (rused_at (LAt.later HHz.out Dd.out) HOk.out).mono ?_
  rintro eu wu ⟨rfl, bu⟩
  have Du : Hid (Below wz.heap.size wz wu) := below_then Dd.out bu
  clear bu Dd hHeld
  refine hKc.out _ _ Du.out (fun hHeld => ?_)
  clear hKc Kc
  refine wpAnyH_take (i := 41) (v := ?va51) (by simp; rfl) (by kernel_rfl) (by kernel_rfl) (by kernel_rfl) (fun _ _ _ h => h) (Or.inl ⟨by rfl, ?ya51⟩) hHeld ?ra51
  case ya51 => intro w hSw; clear hSw; go_simp; with_reducible rfl
  simp only [Act.put, List.setIfInBounds_toArray, List.set_cons_zero, List.set_cons_succ]
  refine wpAnyH_take (i := 42) (v := ?va52) (by simp; rfl) (by kernel_rfl) (by kernel_rfl) (by kernel_rfl) (fun _ _ _ h => h) (Or.inl ⟨by rfl, ?ya52⟩) hHeld ?ra52
  case ya52 => intro w hSw; clear hSw; go_simp; with_reducible rfl
  simp only [Act.put, List.setIfInBounds_toArray, List.set_cons_zero, List.set_cons_succ]
  refine wpAnyH_take (i := 43) (v := ?va53) (by simp; rfl) (by kernel_rfl) (by kernel_rfl) (by kernel_rfl) (fun _ _ _ h => h) (Or.inl ⟨by rfl, ?ya53⟩) hHeld ?ra53
  case ya53 => intro w hSw; clear hSw; go_simp; with_reducible rfl
  simp only [Act.put, List.setIfInBounds_toArray, List.set_cons_zero, List.set_cons_succ]
  clear hHeld
  refine wpAnyH_done (by kernel_rfl) (NoPanic.normal ?_) _
  go_wp2_with fail
  go_ret
  exact ⟨rfl, below_then HBz.out Du.out⟩
theorem Sq.none {w : World} {B P M k i : Nat} (h : Sq w B P M k) (hi : i < M) (kd wh b : Int) (v : List Int) (hv : v.length = 32) (pos : Int) (keep data : Value) :
    Calls Tryz.prog 35 #[.pointer (some ⟨P, 0, none⟩), .int .i64 i, .agg (ocells kd wh b v pos keep data).toArray] w fun r w' => r = .returned (.bool true) ∧ Below w.heap.size w w' := by
  obtain ⟨⟨R, L, x, K, y, e, bo, h1, h2, h3⟩, ht, hb⟩ := h
  exact none_low (Nat.lt_of_lt_of_le hi h1.m2) (h1.cl i hi) (h1.cr i hi) (h1.ls i hi) (h1.rs i hi) kd wh b v hv pos keep data
end Go.Proofs.YtmcpjokbkkfgfaaGreatDoor
