/-
  Layer 10, the laws' own: small, num, awake.
-/
import Derived.Test.YtefnkjajjidfaaaDoorEf
import Derived.Test.YtefnkjajjidfaaaDoorEh
import Derived.Test.YtefnkjajjidfaaaDoorEj
import Derived.Test.YtefnkjajjidfaaaDoorWd
import Derived.Test.YtefnkjajjidfaaaDoorSy
namespace Go.Proofs.YtefnkjajjidfaaaDoor
open Go.RowKit


section
variable {P : Program} {ops : Array Oper} {rest : List Oper} {o : Oper} {a : Act} {w w' : World} {Q : Exit → Act → World → Prop}
theorem wpList_slice2_is (hgd : Region.wanted o (yielded ops a.tmps) = true) (ty : TypeId) {x y : Operand} (ho : o.op = .buildSlice ty 2 #[(0, x), (1, y)]) {u u2 v : Value} (hx : a.eval x = u) (hy : a.eval y = u2) (hrun : (Instr.buildSlice ty 2 #[(0, u), (1, u2)]).run P w = .ok v w') (h : wpList P ops Q rest (a.put o.dst v) w') : wpList P ops Q (o :: rest) a w :=
  wpList_val hgd (by
    have e : (#[(0, x), (1, y)] : Array (Nat × Operand)).map (fun (i, z) => (i, a.eval z)) = #[(0, u), (1, u2)] := by simp [hx, hy]
    unfold execOp; simp only [ho]; rw [e]; simp only [Sem.run_bind, hrun, Result.andThen_ok, Sem.run_pure]) h
end
theorem read_any10 {w : World} {S : Nat → Prop} {p n : Nat} {d : List Int} {ws : List Wr} (h : Dsk w S p n d ws) (ht : Tab w) (c : Sup) :
    Calls Tryd.prog 20 #[.pointer (some ⟨p, 0, none⟩), .agg (ccells c).toArray] w fun e w' => ∃ q cp vs, e = .returned (.tuple #[.agg (gcells (rdL c n (newest ws d)).1.tail (rdL c n (newest ws d)).1.life (rdL c n (newest ws d)).1.fin (.slice q (rdL c n (newest ws d)).1.txs.length cp)).toArray, .int .i64 (rdL c n (newest ws d)).2]) ∧ XOwn 33 w' w.heap.size (.slice q (rdL c n (newest ws d)).1.txs.length cp) (rdL c n (newest ws d)).1.txs vs ∧ Rise vs w'.heap.size ∧ Below w.heap.size w w' := by
  by_cases hz : (supOf c n (newest ws d)).2 = 0
  · rw [rdL_ok hz]
    refine (read_ok10 h ht c hz).mono ?_
    rintro e w' ⟨v, vs, rfl, hx, hr, hb⟩
    obtain ⟨q, cp, rfl, -⟩ := XOwn.in hx
    exact ⟨q, cp, vs, rfl, hx, hr, hb⟩
  · rw [rdL_no hz]
    refine (read_err10 h ht c hz).mono ?_
    rintro e w' ⟨rfl, hb⟩
    exact ⟨none, 0, [], rfl, XOwn.nil _ _ _, Rise.nil _, hb⟩
/-- a superblock that stands -/
theorem supOf_new {c : Sup} (h : MayC c) {rd : Nat → List Int} (h0 : rd 0 = encS (sup1 c)) : supOf c (cntS c) rd = (sup1 c, 0) := by
  have e : decS (rd 0) = (sup1 c, 0) := by rw [h0]; exact decS_encS _ (sup1_wf h) (sup1_may h)
  rw [supOf_ok h (cntS_is h) (by rw [e]) (by rw [e]; exact ⟨rfl, rfl, rfl, rfl, rfl⟩), e]
theorem rdL_new {c : Sup} (h : MayC c) {rd : Nat → List Int} (h0 : rd 0 = encS (sup1 c)) {s : Sc} (hs : scRun (stS c rd) c.mr c.lc.toNat 0 ⟨[], 0, []⟩ = s) : rdL c (cntS c) rd = (⟨0, 1, s.fin, s.txs⟩, 0) := by
  have e := supOf_new h h0
  rw [rdL_ok (by rw [e]), e]
  show (scanS c rd (sup1 c), (0 : Int)) = _
  unfold scanS
  show ((⟨0, 1, (scRun (stS c rd) c.mr c.lc.toNat 0 ⟨[], 0, []⟩).fin, (scRun (stS c rd) c.mr c.lc.toNat 0 ⟨[], 0, []⟩).txs⟩ : LogS), (0 : Int)) = _
  rw [hs]
theorem st_blank {c : Sup} {rd : Nat → List Int} {p : Int} (h : rd (1 + c.bl + p % c.lc).toNat = zs 64) : (stS c rd p).2 = false := by
  rw [stS_no fun k => zs64_no (by rw [← h]; exact k.1)]
theorem rdL_empty {c : Sup} (h : MayC c) : rdL c (cntS c) (newest [] (newS c)) = (⟨0, 1, 0, []⟩, 0) := by
  have st := Sty.start h
  refine rdL_new h st.sup (s := ⟨[], 0, []⟩) (scRun_off ?_)
  refine st_blank ?_
  have hl := h.2.1
  have := st.blank 0 (Int.le_refl 0) (by omega)
  exact this
def sm10 : Sup := ⟨3, 4, 2, 4, 1, 0, 0⟩
theorem sm10_may : MayC sm10 := by decide
set_option maxHeartbeats 1000000 in
set_option maxRecDepth 100000 in
theorem small_any (w : World) : Calls Tryd.prog 28 #[] w fun e w' => e = .returned (.agg (ccells sm10).toArray) ∧ Below w.heap.size w w' := by
  have A1 : Hid (_) := alloc23 w
  have U1 : Hid (_) := build23 (w.alloc (.cells (ccells sup0).toArray 39)) #[(0, .int .i64 3), (1, .int .i64 4), (2, .int .i64 2), (3, .int .i64 4), (4, .int .i64 1)] sm10 (fill_cfgs sm10)
  have S1 : Hid (_) := store_new23 w sm10
  go_enter Tryd.func28, Tryd.ntmps28
  go_wp2_with ((with_reducible refine at_ops ?_); (first | (refine wpList_alloc_is (by rfl) 39 rfl A1.out ?_) | (refine wpList_build_is (vs := [(0, .int .i64 3), (1, .int .i64 4), (2, .int .i64 2), (3, .int .i64 4), (4, .int .i64 1)]) (by rfl) 39 rfl (by rfl) U1.out ?_) | (refine wpList_store_is (by rfl) 39 rfl rfl rfl S1.out ?_)); simp only [Act.put, List.setIfInBounds_toArray, List.set_cons_zero, List.set_cons_succ])
  exact bodyPost_ret (results_cell1 Tryd.results28 _ _ w.heap.size 39 _ _ (by rfl) (LAt.new 39 w _) Tryd.underlying39 rfl size23) rfl ⟨rfl, below_alloc w _⟩
theorem num_any (x : Int) (w : World) : Calls Tryd.prog 15 #[.int .i64 x] w fun e w' => e = .returned (.int .i64 x) ∧ w = w' := by
  go_enter Tryd.func15, Tryd.ntmps15
  go_wp2
  go_ret
  exact ⟨rfl, rfl⟩
def v1 : List Int := 1 :: zs 31
def v3 : List Int := 3 :: zs 31
def tl10 : List TX := [⟨0, [⟨0, v1⟩, ⟨2, zs 32⟩]⟩, ⟨0, [⟨0, v3⟩]⟩]
theorem v1_wf : Im.Wf ⟨0, v1⟩ := ⟨by decide, rfl, Bytes.cons (by omega) (zs_bytes 31)⟩
theorem v3_wf : Im.Wf ⟨0, v3⟩ := ⟨by decide, rfl, Bytes.cons (by omega) (zs_bytes 31)⟩
theorem v2_wf : Im.Wf ⟨2, zs 32⟩ := ⟨by decide, rfl, zs_bytes 32⟩
theorem tl10_wf : TxsWf tl10 := by
  intro t ht
  simp only [tl10, List.mem_cons, List.not_mem_nil, or_false] at ht
  rcases ht with rfl | rfl
  · refine ⟨by decide, fun i hi => ?_⟩
    simp only [List.mem_cons, List.not_mem_nil, or_false] at hi
    rcases hi with rfl | rfl
    · exact v1_wf
    · exact v2_wf
  · refine ⟨by decide, fun i hi => ?_⟩
    simp only [List.mem_cons, List.not_mem_nil, or_false] at hi
    rw [hi]; exact v3_wf
theorem tl10_new : nwS (flat tl10) = [⟨0, v3⟩, ⟨2, zs 32⟩] := by rfl
set_option maxHeartbeats 4000000 in
set_option maxRecDepth 100000 in
theorem awake_any (w : World) (ht : Tab w) : Calls Tryd.prog 7 #[] w fun e w' => e = .returned (.bool true) ∧ Below w.heap.size w w' := by
  have HT : Hid (Tab w) := ht
  clear ht
  go_enter Tryd.func7, Tryd.ntmps7
  go_wp2_with fail
  refine (small_any _).mono ?_
  rintro e w1 ⟨rfl, b1⟩
  go_wp2_with fail
  refine (hnew_good sm10 sm10_may w1 (HT.out.later b1)).mono ?_
  rintro e w2 ⟨p, rfl, d2, b2⟩
  have B2 : Hid (Below w.heap.size w w2) := below_then b1 b2
  have D2 : Hid (Dsk w2 (fun k => w1.heap.size ≤ k) p (cntS sm10) (newS sm10) []) := d2
  clear d2 b1 b2
  go_wp2_with (go_at_call 15; refine (num_any _ _).mono ?_; rintro e wn ⟨rfl, rfl⟩)
  refine (small_any _).mono ?_
  rintro e w3 ⟨rfl, b3⟩
  have B3 : Hid (Below w.heap.size w w3) := below_then B2.out b3
  have D3 : Hid (Dsk w3 (fun k => w1.heap.size ≤ k) p (cntS sm10) (newS sm10) []) := D2.out.later b3
  clear D2 b3
  go_wp2_with fail
  refine (read_any10 D3.out (HT.out.later B3.out) sm10).mono ?_
  rintro e w4 ⟨q4, cp4, vs4, rfl, -, -, b4⟩
  rw [rdL_empty sm10_may]
  have B4 : Hid (Below w.heap.size w w4) := below_then B3.out b4
  have D4 : Hid (Dsk w4 (fun k => w1.heap.size ≤ k) p (cntS sm10) (newS sm10) []) := D3.out.later b4
  have A4 : Hid (_) := allocLg w4
  have T4 : Hid (_) := storeLg w4 0 1 0 (v := .slice q4 0 cp4) rfl
  obtain ⟨w5, hw5⟩ : ∃ y, y = w4.alloc (.cells (gcells 0 1 0 (.slice q4 0 cp4)).toArray 66) := ⟨_, rfl⟩
  rw [← hw5] at T4
  have b5 : Below w4.heap.size w4 w5 := by rw [hw5]; exact below_alloc w4 _
  have B5 : Hid (Below w.heap.size w w5) := below_then B4.out b5
  have D5 : Hid (Dsk w5 (fun k => w1.heap.size ≤ k) p (cntS sm10) (newS sm10) []) := D4.out.later b5
  have L5 : Hid (LAt 66 w5 w4.heap.size (gcells 0 1 0 (.slice q4 0 cp4))) := by rw [hw5]; exact LAt.new 66 w4 _
  clear hw5 b5 b4 D3 D4 B3 B2
  go_wp2_with ((with_reducible refine at_ops ?_); (first | (refine wpList_alloc_is (by rfl) 66 rfl A4.out ?_) | (refine wpList_store_is (by rfl) 66 rfl rfl rfl T4.out ?_) | (refine wpList_store_is (by rfl) 66 rfl rfl rfl T4.out ?_)); simp only [Act.put, List.setIfInBounds_toArray, List.set_cons_zero, List.set_cons_succ])
  refine (small_any _).mono ?_
  rintro e w6 ⟨rfl, b6⟩
  go_wp2_with fail
  refine (read_nil10 sm10 w6).mono ?_
  rintro e w7 ⟨rfl, b7⟩
  have b57 := below_then b6 b7
  have B7 : Hid (Below w.heap.size w w7) := below_then B5.out b57
  have D7 : Hid (Dsk w7 (fun k => w1.heap.size ≤ k) p (cntS sm10) (newS sm10) []) := D5.out.later b57
  have L7 : Hid (LAt 66 w7 w4.heap.size (gcells 0 1 0 (.slice q4 0 cp4))) := LAt.later L5.out b57
  clear b6 b7 b57 D5 L5 B5 A4 T4
  have A7 : Hid (_) := allocLg w7
  have T7 : Hid (_) := storeLg w7 0 0 0 (v := .slice none 0 0) rfl
  obtain ⟨w8, hw8⟩ : ∃ y, y = w7.alloc (.cells (gcells 0 0 0 (.slice none 0 0)).toArray 66) := ⟨_, rfl⟩
  rw [← hw8] at T7 A7
  have b8 : Below w7.heap.size w7 w8 := by rw [hw8]; exact below_alloc w7 _
  clear hw8
  go_wp2_with ((with_reducible refine at_ops ?_); (first | (refine wpList_alloc_is (by rfl) 66 rfl A7.out ?_) | (refine wpList_store_is (by rfl) 66 rfl rfl rfl T7.out ?_) | (refine wpList_alloc_is (by rfl) 66 rfl A7.out ?_)); simp only [Act.put, List.setIfInBounds_toArray, List.set_cons_zero, List.set_cons_succ])
  refine (small_any _).mono ?_
  rintro e w9 ⟨rfl, b9⟩
  have A9 : Hid (_) := alloc23 w9
  have T9 : Hid (_) := store_new23 w9 sm10
  obtain ⟨w10, hw10⟩ : ∃ y, y = w9.alloc (.cells (ccells sm10).toArray 39) := ⟨_, rfl⟩
  rw [← hw10] at T9
  have b10 : Below w9.heap.size w9 w10 := by rw [hw10]; exact below_alloc w9 _
  have C10 : CAt w10 w9.heap.size sm10 := by rw [hw10]; exact LAt.new 39 w9 _
  have c101 : w10.cell? ⟨w9.heap.size, 1, none⟩ = some (.int .i64 4) := CAt.c1 C10
  have f101 := LAt.free C10 1
  have C11 : CAt (w10.setCell ⟨w9.heap.size, 1, none⟩ (.int .i64 5)) w9.heap.size ⟨3, 5, 2, 4, 1, 0, 0⟩ := LAt.set C10 1 (.int .i64 5)
  have L11 : Hid (_) := CAt.load23 C11
  have b7_10 : Below w7.heap.size w7 w10 := below_then b8 (below_then b9 b10)
  have b7_11 : Below w7.heap.size w7 (w10.setCell ⟨w9.heap.size, 1, none⟩ (.int .i64 5)) := b7_10.setCell (p := ⟨w9.heap.size, 1, none⟩) (by have := b8.size; have := b9.size; show w7.heap.size ≤ w9.heap.size; omega) _
  obtain ⟨w11, hw11⟩ : ∃ y, w10.setCell ⟨w9.heap.size, 1, none⟩ (.int .i64 5) = y := ⟨_, rfl⟩
  rw [hw11] at L11 b7_11
  have B11 : Hid (Below w.heap.size w w11) := below_then B7.out b7_11
  have D11 : Hid (Dsk w11 (fun k => w1.heap.size ≤ k) p (cntS sm10) (newS sm10) []) := D7.out.later b7_11
  have M11 : Hid (LAt 66 w11 w4.heap.size (gcells 0 1 0 (.slice q4 0 cp4))) := LAt.later L7.out b7_11
  clear b8 b9 hw10 b10 C10 C11 b7_10 b7_11 D7 L7 B7 A7 T7
  go_wp2_with ((with_reducible refine at_ops ?_); (first | (refine wpList_alloc_is (by rfl) 39 rfl A9.out ?_) | (refine wpList_store_is (by rfl) 39 rfl rfl rfl T9.out ?_) | (refine wpList_load_is (by rfl) 39 rfl rfl L11.out ?_)); simp only [Act.put, List.setIfInBounds_toArray, List.set_cons_zero, List.set_cons_succ])
  refine (read_any10 D11.out (HT.out.later B11.out) ⟨3, 5, 2, 4, 1, 0, 0⟩).mono ?_
  rintro e w12 ⟨q12, cp12, vs12, rfl, -, -, b12⟩
  rw [show rdL ⟨3, 5, 2, 4, 1, 0, 0⟩ (cntS sm10) (newest [] (newS sm10)) = (log0, 40) from by rw [rdL_no (by rw [supOf_len _ (by decide) (by decide)]; decide), supOf_len _ (by decide) (by decide)]]
  have B12 : Hid (Below w.heap.size w w12) := below_then B11.out b12
  have L12 : Hid (LAt 66 w12 w4.heap.size (gcells 0 1 0 (.slice q4 0 cp4))) := LAt.later M11.out b12
  clear b12 M11 B11 D11 L11 A9 T9 c101 f101 hw11
  have A12 : Hid (_) := allocLg w12
  have T12 : Hid (_) := storeLg w12 0 0 0 (v := .slice q12 0 cp12) rfl
  obtain ⟨w13, hw13⟩ : ∃ y, y = w12.alloc (.cells (gcells 0 0 0 (.slice q12 0 cp12)).toArray 66) := ⟨_, rfl⟩
  rw [← hw13] at T12
  have b13 : Below w12.heap.size w12 w13 := by rw [hw13]; exact below_alloc w12 _
  have V1 : Hid (_) := buildV1 w13 1
  have I1 : Hid (_) := buildI w13 0 v1 rfl
  have I2 : Hid (_) := buildIb w13 2
  have S2 : Hid (_) := build_im2 w13 ⟨0, v1⟩ ⟨2, zs 32⟩ rfl (zs_len 32)
  obtain ⟨w14, hw14⟩ : ∃ y, y = w13.alloc (.cells (IC [⟨0, v1⟩, ⟨2, zs 32⟩]).toArray 32) := ⟨_, rfl⟩
  rw [← hw14] at S2
  have b14 : Below w13.heap.size w13 w14 := by rw [hw14]; exact below_alloc w13 _
  have r14 : LAt 32 w14 w13.heap.size (IC [⟨0, v1⟩, ⟨2, zs 32⟩]) := by rw [hw14]; exact LAt.new 32 w13 _
  have X1 : Hid (_) := buildT1 w14 (some ⟨w13.heap.size, 0, none⟩) 2 2
  have V3 : Hid (_) := buildV1 w14 3
  have I3 : Hid (_) := buildI w14 0 v3 rfl
  have S3 : Hid (_) := build_im w14 ⟨0, v3⟩ rfl
  obtain ⟨w15, hw15⟩ : ∃ y, y = w14.alloc (.cells (icells ⟨0, v3⟩).toArray 32) := ⟨_, rfl⟩
  rw [← hw15] at S3
  have b15 : Below w14.heap.size w14 w15 := by rw [hw15]; exact below_alloc w14 _
  have r15 : LAt 32 w15 w14.heap.size (icells ⟨0, v3⟩) := by rw [hw15]; exact LAt.new 32 w14 _
  have X2 : Hid (_) := buildT1 w15 (some ⟨w14.heap.size, 0, none⟩) 1 1
  have S4 : Hid (_) := build_tx2 w15 (some ⟨w13.heap.size, 0, none⟩) (some ⟨w14.heap.size, 0, none⟩) 2 2 1 1
  obtain ⟨w16, hw16⟩ : ∃ y, y = w15.alloc (.cells #[.int .u64 0, .slice (some ⟨w13.heap.size, 0, none⟩) 2 2, .int .u64 0, .slice (some ⟨w14.heap.size, 0, none⟩) 1 1] 33) := ⟨_, rfl⟩
  rw [← hw16] at S4
  have b16 : Below w15.heap.size w15 w16 := by rw [hw16]; exact below_alloc w15 _
  have r16 : LAt 33 w16 w15.heap.size [.int .u64 0, .slice (some ⟨w13.heap.size, 0, none⟩) 2 2, .int .u64 0, .slice (some ⟨w14.heap.size, 0, none⟩) 1 1] := by rw [hw16]; exact LAt.new 33 w15 _
  have X16 : Hid (XIn w16 (some ⟨w15.heap.size, 0, none⟩) 2 tl10) := by
    refine ⟨rfl, fun _ => ⟨_, _, rfl, fun k t hk => ?_⟩⟩
    have hk2 : k < 2 := (List.getElem?_eq_some_iff.1 hk).1
    have : k = 0 ∨ k = 1 := by omega
    rcases this with rfl | rfl
    · cases hk
      refine ⟨_, 2, LAt.cell r16 0, LAt.cell r16 1, ⟨rfl, (tl10_wf _ (List.mem_cons.2 (.inl rfl))).ims, fun _ => ⟨_, _, rfl, LAt.range (LAt.later (LAt.later r14 b15) b16)⟩⟩, Nat.le_refl _, by decide⟩
    · cases hk
      refine ⟨_, 1, LAt.cell r16 2, LAt.cell r16 3, ⟨rfl, (tl10_wf _ (List.mem_cons.2 (.inr (List.mem_cons.2 (.inl rfl))))).ims, fun _ => ⟨_, _, rfl, ?_⟩⟩, Nat.le_refl _, by decide⟩
      have := LAt.range (LAt.later r15 b16)
      show w16.rangeAt _ 0 (IC [⟨0, v3⟩])
      rw [show IC [(⟨0, v3⟩ : Im)] = icells ⟨0, v3⟩ from by simp [IC]]
      exact this
  have b12_16 : Below w12.heap.size w12 w16 := below_then b13 (below_then b14 (below_then b15 b16))
  have B16 : Hid (Below w.heap.size w w16) := below_then B12.out b12_16
  have L16 : Hid (LAt 66 w16 w4.heap.size (gcells 0 1 0 (.slice q4 0 cp4))) := LAt.later L12.out b12_16
  clear hw13 hw14 hw15 hw16 b13 b14 b15 b16 r14 r15 r16 b12_16 B12 L12
  go_wp2_with ((with_reducible refine at_ops ?_); (first | (refine wpList_alloc_is (by rfl) 66 rfl A12.out ?_) | (refine wpList_store_is (by rfl) 66 rfl rfl rfl T12.out ?_) | (refine wpList_build_is (vs := [(0, .int .u8 1)]) (by rfl) 30 rfl (by rfl) V1.out ?_) | (refine wpList_build_is (vs := [(0, .int .i64 0), (1, .agg (U8 v1).toArray)]) (by rfl) 32 rfl (by rfl) I1.out ?_) | (refine wpList_build_is (vs := [(0, .int .i64 2)]) (by rfl) 32 rfl (by rfl) I2.out ?_) | (refine wpList_slice2_is (u := .agg (icells ⟨0, v1⟩).toArray) (u2 := .agg (icells ⟨2, zs 32⟩).toArray) (by rfl) 26 rfl rfl rfl S2.out ?_) | (refine wpList_build_is (vs := [(1, .slice (some ⟨w13.heap.size, 0, none⟩) 2 2)]) (by rfl) 33 rfl (by rfl) X1.out ?_) | (refine wpList_build_is (vs := [(0, .int .u8 3)]) (by rfl) 30 rfl (by rfl) V3.out ?_) | (refine wpList_build_is (vs := [(0, .int .i64 0), (1, .agg (U8 v3).toArray)]) (by rfl) 32 rfl (by rfl) I3.out ?_) | (refine wpList_slice_is (u := .agg (icells ⟨0, v3⟩).toArray) (by rfl) 26 rfl rfl S3.out ?_) | (refine wpList_build_is (vs := [(1, .slice (some ⟨w14.heap.size, 0, none⟩) 1 1)]) (by rfl) 33 rfl (by rfl) X2.out ?_) | (refine wpList_slice2_is (u := .agg #[.int .u64 0, .slice (some ⟨w13.heap.size, 0, none⟩) 2 2]) (u2 := .agg #[.int .u64 0, .slice (some ⟨w14.heap.size, 0, none⟩) 1 1]) (by rfl) 24 rfl rfl rfl S4.out ?_)); simp only [Act.put, List.setIfInBounds_toArray, List.set_cons_zero, List.set_cons_succ])
  refine (newest_any (some ⟨w15.heap.size, 0, none⟩) 2 2 tl10 w16 X16.out tl10_wf (by omega) (by decide)).mono ?_
  rintro e w17 ⟨v17, rfl, o17, b17⟩
  rw [tl10_new] at o17
  obtain ⟨q17, cp17, rfl, m17, -, -⟩ := IOwn.in o17 (by
    intro i hi
    simp only [List.mem_cons, List.not_mem_nil, or_false] at hi
    rcases hi with rfl | rfl
    · exact v3_wf
    · exact v2_wf)
  obtain ⟨g17, f17, rfl, -⟩ := m17.cells (show 0 < 2 by omega)
  have B17 : Hid (Below w.heap.size w w17) := below_then B16.out b17
  have L17 := LAt.later L16.out b17
  have k0 : w17.cell? ⟨w4.heap.size, 0, none⟩ = some (.int .u64 0) := LAt.cell L17 0
  have k1 : w17.cell? ⟨w4.heap.size, 1, none⟩ = some (.int .u64 1) := LAt.cell L17 1
  have k2 : w17.cell? ⟨w4.heap.size, 2, none⟩ = some (.int .u64 0) := LAt.cell L17 2
  have k3 : w17.cell? ⟨w4.heap.size, 3, none⟩ = some (.slice q4 0 cp4) := LAt.cell L17 3
  have LI : Hid (_) := m17.load (k := 0) (i := ⟨0, v3⟩) rfl
  have ci : w17.cell? ⟨g17, f17 + 1 * 33, none⟩ = some (.int .i64 2) := m17.c0 (k := 1) (i := ⟨2, zs 32⟩) rfl
  have V17 : Hid (_) := buildV1 w17 3
  have I17 : Hid (_) := buildI w17 0 v3 rfl
  have E17 : Hid (_) := eqlI w17 ⟨0, v3⟩ ⟨0, v3⟩ rfl rfl
  rw [(imB_iff ⟨0, v3⟩ ⟨0, v3⟩).2 rfl] at E17
  rw [Nat.zero_mul, Nat.add_zero] at LI
  clear o17 b17 L17 m17 B16 L16 X16 V1 I1 I2 S2 X1 V3 I3 S3 X2 S4 A12 T12
  go_wp2_with (first | (go_at_call 15; refine (num_any _ _).mono ?_; rintro e wn ⟨rfl, rfl⟩) | ((with_reducible refine at_ops ?_); (first | (refine wpList_load_is (by rfl) 32 rfl rfl LI.out ?_) | (refine wpList_build_is (vs := [(0, .int .u8 3)]) (by rfl) 30 rfl (by rfl) V17.out ?_) | (refine wpList_build_is (vs := [(0, .int .i64 0), (1, .agg (U8 v3).toArray)]) (by rfl) 32 rfl (by rfl) I17.out ?_) | (refine wpList_eql_is (by rfl) 32 rfl rfl rfl eqgI E17.out ?_)); simp only [Act.put, List.setIfInBounds_toArray, List.set_cons_zero, List.set_cons_succ]))
  go_ret
  exact ⟨rfl, B17.out⟩
end Go.Proofs.YtefnkjajjidfaaaDoor
