import Derived.Test.YtdadpepfpiimgaaDoorX18
import Derived.ProofKit
import Derived.LaidMore
import Derived.OpenShut
import Derived.Stop.Joined
import Derived.Stop.LaidErr
import Derived.Lib.LaidTab
import Derived.ShutString
set_option maxHeartbeats 20000000
set_option maxRecDepth 100000
namespace Go.Proofs.YtdadpepfpiimgaaDoor.Q
open Go.RowKit
section
variable {w0 w : World} {X : List Kd} {i j P p n : Nat} {q : Option Nat} {D : Dd} {x : Rc}
def sm : Sup := ⟨2, 4, 2, 4, 1, 0, 0⟩
theorem sm_may : MayC sm := by decide
theorem size_cfg : (Tryd.prog.info? 28).map (·.size) = some 5 := by kernel_rfl
set_option maxHeartbeats 2000000 in
set_option maxRecDepth 100000 in
theorem small_is (w : World) : Calls Tryd.prog 6 #[] w fun e w' => e = .returned (.agg (ccells sm).toArray) ∧ Below w.heap.size w w' := by
  have HA : Hid ((Instr.alloc 28 true (.tuple #[])).run Tryd.prog w = .ok (.pointer (some ⟨w.heap.size, 0, none⟩)) (w.alloc (.cells (ccells sup0).toArray 28))) := by
    have hz : (Tryd.prog.info? 28).bind (·.zero) = some (.agg (ccells sup0).toArray) := by kernel_rfl
    show _ = _
    simp only [Instr.alloc, Sem.run_bind, Go.Proofs.YtdadpepfpiimgaaDoor.zv 28 _ hz, Result.andThen_ok]
    simp [newVar, newRow, Value.cells]
  have HB : Hid ((Instr.build 28 #[(0, .int .i64 2), (1, .int .i64 4), (2, .int .i64 2), (3, .int .i64 4), (4, .int .i64 1)]).run Tryd.prog (w.alloc (.cells (ccells sup0).toArray 28)) = .ok (.agg (ccells sm).toArray) (w.alloc (.cells (ccells sup0).toArray 28))) := run_build _ 28 _ _ (by kernel_rfl)
  have HS : Hid ((Instr.storeAt 28 (.pointer (some ⟨w.heap.size, 0, none⟩)) (.agg (ccells sm).toArray)).run Tryd.prog (w.alloc (.cells (ccells sup0).toArray 28)) = .ok () (w.alloc (.cells (ccells sm).toArray 28))) := by
    show _ = _
    rw [(LAt.new 28 w (ccells sup0)).store (ds := ccells sm) (by rw [size_cfg]; rfl) rfl (by simp [ccells, Value.oneCell']), setRow_alloc]
  have HL : Hid (LAt 28 (w.alloc (.cells (ccells sm).toArray 28)) w.heap.size (ccells sm)) := heap_alloc_new w _
  have HZ : Hid (Below w.heap.size w (w.alloc (.cells (ccells sm).toArray 28))) := below_alloc w _
  go_enter Tryd.func6, Tryd.ntmps6
  go_wp2_with ((with_reducible refine at_ops ?_); (first | (refine wpList_alloc_is (by rfl) 28 rfl HA.out ?_) | (refine wpList_build_is (vs := [(0, .int .i64 2), (1, .int .i64 4), (2, .int .i64 2), (3, .int .i64 4), (4, .int .i64 1)]) (by rfl) 28 rfl (by rfl) HB.out ?_) | (refine wpList_store_is (by rfl) 28 rfl rfl rfl HS.out ?_)); simp only [Act.put, List.setIfInBounds_toArray, List.set_cons_zero, List.set_cons_succ])
  (try simp only [Exit.inBlock, Exit.then])
  exact bodyPost_ret (results_lat1 Tryd.results6 _ _ w.heap.size 28 _ _ (by rfl) HL.out Tryd.underlying28 rfl (by rw [size_cfg]; rfl)) rfl ⟨rfl, HZ.out⟩
theorem rw_c (r : Rw) (hv : r.val.length = 32) {W : World} {B : Nat} (h : LAt 38 W B (rowc r)) : W.cell? ⟨B, 0, none⟩ = some (.int .i64 r.kind) ∧ W.cell? ⟨B, 1, none⟩ = some (.int .u64 0) ∧ W.cell? ⟨B, 2, none⟩ = some (.int .i64 0) ∧ W.cell? ⟨B, 3, none⟩ = some (.int .u64 0) ∧ W.cell? ⟨B, 4, none⟩ = some (.int .i64 r.block) ∧ W.cell? ⟨B, 37, none⟩ = some (.int .u64 r.pos) ∧ W.cell? ⟨B, 38, none⟩ = some (.int .i64 r.count) ∧ W.cell? ⟨B, 39, none⟩ = some (.int .i64 0) ∧ W.cell? ⟨B, 40, none⟩ = some (.slice none 0 0) := by
  have hb : ∀ j : Nat, (rowc r)[37 + j]? = ([.int .u64 r.pos, .int .i64 r.count, .int .i64 0, .slice none 0 0] : List Value)[j]? := fun j => by
    unfold rowc
    rw [List.getElem?_append_right (by simp; omega), List.getElem?_append_right (by simp [hv]; omega)]
    congr 1
    simp [hv]; omega
  refine ⟨?_, ?_, ?_, ?_, ?_, ?_, ?_, ?_, ?_⟩
  · rw [LAt.cell h 0]; rfl
  · rw [LAt.cell h 1]; rfl
  · rw [LAt.cell h 2]; rfl
  · rw [LAt.cell h 3]; rfl
  · rw [LAt.cell h 4]; rfl
  · rw [LAt.cell h 37, hb 0]; rfl
  · rw [LAt.cell h 38, hb 1]; rfl
  · rw [LAt.cell h 39, hb 2]; rfl
  · rw [LAt.cell h 40, hb 3]; rfl
theorem rw_val (r : Rw) (hv : r.val.length = 32) {W : World} {B : Nat} (h : LAt 38 W B (rowc r)) : (Instr.loadAt 35 (.pointer (some ⟨B, 5, none⟩))).run Tryd.prog W = .ok (.agg (U8 r.val).toArray) W :=
  run_loadAt_mid W B 5 35 (U8 r.val) _ (fun j u hu => by
    have hj : j < 32 := by have := (List.getElem?_eq_some_iff.1 hu).1; rw [U8_length, hv] at this; exact this
    rw [LAt.cell h (5 + j)]
    unfold rowc
    rw [List.getElem?_append_right (by simp), List.getElem?_append_left (by rw [U8_length, hv]; simp; omega)]
    rw [← hu]; congr 1; simp) Tryd.underlying35 rfl (by rw [sizeV, U8_length, hv])
set_option maxHeartbeats 2000000 in
set_option maxRecDepth 100000 in
theorem sameRow_eq (r : Rw) (hv : r.val.length = 32) (w : World) : Calls Tryd.prog 14 #[.agg (rowc r).toArray, .agg (rowc r).toArray] w fun e w' => e = .returned (.bool true) ∧ Below w.heap.size w w' := by
  obtain ⟨w1, hw1⟩ : ∃ W, w.alloc (.cells (rowc r).toArray 38) = W := ⟨_, rfl⟩
  obtain ⟨w2, hw2⟩ : ∃ W, w1.alloc (.cells (rowc r).toArray 38) = W := ⟨_, rfl⟩
  obtain ⟨A, hA⟩ : ∃ A, w.heap.size = A := ⟨_, rfl⟩
  have hA1 : w1.heap.size = A + 1 := by rw [← hw1, ← hA]; simp
  have l2 : LAt 38 w2 (A + 1) (rowc r) := by rw [← hw2, ← hA1]; exact heap_alloc_new w1 _
  have l1 : LAt 38 w2 A (rowc r) := by rw [← hw2]; exact LAt.later (t := 38) (by rw [← hw1, ← hA]; exact heap_alloc_new w _) (below_alloc w1 _)
  obtain ⟨a0, a1, a2, a3, a4, a37, a38, a39, a40⟩ := rw_c r hv l1
  obtain ⟨b0, b1, b2, b3, b4, b37, b38, b39, b40⟩ := rw_c r hv l2
  have HV1 : Hid (_) := rw_val r hv l1
  have HV2 : Hid (_) := rw_val r hv l2
  have HE : Hid ((binOp BinOp.eql 35 (.agg (U8 r.val).toArray) (.agg (U8 r.val).toArray)).run Tryd.prog w2 = .ok (.bool true) w2) := by
    have := R.eql24 w2 r.val r.val hv hv
    rw [decide_eq_true rfl] at this
    exact this
  have HB : Hid (Below A w w2) := by rw [← hA, ← hw2]; exact below_then (by rw [← hw1]; exact below_alloc w _) (below_alloc w1 _)
  clear l1 l2
  rw [hA]
  go_enter Tryd.func14, Tryd.ntmps14
  go_wp2_with fail
  go_loopw [5] (fun i wr => i = .int .i64 0 ∧ wr = w2) (fun _ _ => 0)
  case atStart => exact ⟨rfl, rfl⟩
  case round =>
    obtain ⟨rfl, hwr⟩ := hrel
    rw [hwr]
    go_wp2_with ((with_reducible refine at_ops ?_); (first | (refine wpList_load_is (by rfl) 35 rfl rfl HV1.out ?_) | (refine wpList_load_is (by rfl) 35 rfl rfl HV2.out ?_) | (refine wpList_eql_is (by rfl) 35 rfl rfl rfl (by rfl) HE.out ?_)); simp only [Act.put, List.setIfInBounds_toArray, List.set_cons_zero, List.set_cons_succ])
    go_ret
    exact ⟨rfl, HB.out⟩
end
end Go.Proofs.YtdadpepfpiimgaaDoor.Q
namespace Go.Proofs.YtdadpepfpiimgaaDoor.Q
open Go.RowKit
section
variable {w0 w : World} {X : List Kd} {i j P p n : Nat} {q : Option Nat} {D : Dd} {x : Rc}
theorem lg_new {c : Sup} (h : MayC c) : rdL c (cntS c) (newest [] (newS c)) = (⟨0, 1, 0, []⟩, 0) := by
  have hb := h.1; have hl := h.2.1
  refine rdL_new h (by rw [newest_nil]; exact newS_sup c) (s := ⟨[], 0, []⟩) (scRun_off (st_blank ?_))
  rw [newest_nil, Int.zero_emod]
  exact newS_log c _ (by omega) (by unfold cntS; omega)
abbrev n7 : Nat := cntS sm
abbrev D7 : Dd := ⟨newS sm, []⟩
theorem st1 : stepS n7 (r0 sm) D7 = ⟨⟨19, -1, zv, 0, 0⟩, 0, ⟨sm, 3, 0, 1, []⟩, D7⟩ := by
  have e := lg_new sm_may
  have el : lgS n7 sm D7 = ⟨0, 1, 0, []⟩ := by unfold lgS; exact congrArg Prod.fst e
  have e2 : (rdL sm n7 D7.rd).2 = 0 := congrArg Prod.snd e
  have hw : ¬ wrapS sm (lgS n7 sm D7) := by rw [el]; decide
  rw [step_read rfl (by unfold rdE; rw [if_pos e2, if_neg hw])]
  unfold readR
  rw [el]; rfl
theorem st2 : stepS n7 ⟨sm, 3, 0, 1, []⟩ D7 = ⟨⟨12, -1, zv, 0, 0⟩, 0, ⟨sm, 4, 0, 1, []⟩, D7⟩ := step_flush rfl
abbrev D8 : Dd := D7.wr 0 (encS (supN ⟨sm, 4, 0, 1, []⟩))
theorem st3 : stepS n7 ⟨sm, 4, 0, 1, []⟩ D7 = ⟨⟨16, -1, zv, 4, 0⟩, 0, ⟨sm, 5, 0, 1, []⟩, D8⟩ := step_mark rfl
theorem st4 : stepS n7 ⟨sm, 5, 0, 1, []⟩ D8 = ⟨⟨20, -1, zv, 4, 0⟩, 0, ⟨sm, 6, 0, 1, []⟩, D8.fls⟩ := step_end rfl
theorem st5 : stepS n7 ⟨sm, 6, 0, 1, []⟩ D8.fls = ⟨⟨0, 0, zv, 0, 0⟩, 190, ⟨sm, 6, 0, 1, []⟩, D8.fls⟩ := step_over rfl
theorem ok1 : (r0 sm).Ok n7 := start_ok sm_may (cntS_is sm_may)
theorem ok2 : (⟨sm, 3, 0, 1, []⟩ : Rc).Ok n7 := ⟨sm_may, cntS_is sm_may, by decide, by decide, ImsWf.nil, fun _ h => (by cases h), by decide, by decide, by decide, by decide, by decide, by decide, by decide, by decide⟩
theorem ok3 : (⟨sm, 4, 0, 1, []⟩ : Rc).Ok n7 := ok2.go (by decide) (by decide) (by decide)
theorem ok4 : (⟨sm, 5, 0, 1, []⟩ : Rc).Ok n7 := ok2.go (by decide) (by decide) (by decide)
theorem ok5 : (⟨sm, 6, 0, 1, []⟩ : Rc).Ok n7 := ok2.go (by decide) (by decide) (by decide)
theorem Fz.keeprow (h : Fz w0 w X) {r : Rw} (hr : r.val.length = 32) : ∃ w1 w2, (Instr.alloc 38 true (.tuple #[])).run Tryd.prog w = .ok (qp w.heap.size) w1 ∧ (Instr.storeAt 38 (qp w.heap.size) (.agg (rowc r).toArray)).run Tryd.prog w1 = .ok () w2 ∧ Fz w0 w2 (kb w.heap.size 38 (rowc r) :: X) := by
  obtain ⟨w1, e1, _, h1⟩ := h.rowbox
  obtain ⟨ha, _, _, hl⟩ := h1.atb (i := 0) rfl
  exact ⟨w1, _, e1, store_row ha (rowc_len (zs_len 32)) (rowc_len hr) (rowc_one r), hl (rowc r)⟩
theorem loadRow {W : World} {B : Nat} {r : Rw} (hr : r.val.length = 32) (h : LAt 38 W B (rowc r)) : (Instr.loadAt 38 (.pointer (some ⟨B, 0, none⟩))).run Tryd.prog W = .ok (.agg (rowc r).toArray) W := run_loadAt_mid W B 0 38 (rowc r) _ (LAt.range h) Tryd.underlying38 rfl (by rw [size_row, rowc_len hr])
theorem build_row4 (w : World) (k : Int) : (Instr.build 38 #[(0, .int .i64 k), (4, .int .i64 (-1))]).run Tryd.prog w = .ok (.agg (rowc ⟨k, -1, zv, 0, 0⟩).toArray) w := run_build w 38 _ _ (by kernel_rfl)
set_option maxHeartbeats 20000000 in
set_option maxRecDepth 100000 in
theorem fixed_is (ht : Tab w) : Calls Tryd.prog 4 #[] w fun e w' => e = .returned (.bool true) ∧ Below w.heap.size w w' := by
  have F0 : Hid (Fz w w []) := Fz.start w
  go_enter Tryd.func4, Tryd.ntmps4
  go_wp2_with fail
  refine (small_is _).mono ?_
  rintro e w1 ⟨rfl, hb⟩
  have F0' : Hid (Fz w w1 []) := F0.out.later hb
  clear hb F0
  go_wp2_with fail
  refine (hnew_good sm sm_may _ (F0'.out.tab ht)).mono ?_
  rintro e w2 ⟨p, rfl, hd, hb⟩
  have F1 : Hid (Fz w w2 [kd p n7 D7]) := F0'.out.newd hb hd
  clear hb hd F0'
  go_wp2_with fail
  refine (small_is _).mono ?_
  rintro e w3 ⟨rfl, hb⟩
  have F1' : Hid (Fz w w3 [kd p n7 D7]) := F1.out.later hb
  clear hb F1
  go_wp2_with fail
  refine (new_ok (j := 0) sm sm_may F1'.out rfl (cntS_is sm_may)).mono ?_
  rintro e w4 ⟨P, rfl, hd⟩
  have F2 : Hid (Fz w w4 [kr P (some p) (r0 sm), kd p n7 D7]) := hd
  clear hd F1'
  go_wp2_with fail
  refine (small_is _).mono ?_
  rintro e w5 ⟨rfl, hb⟩
  have F2' : Hid (Fz w w5 [kr P (some p) (r0 sm), kd p n7 D7]) := F2.out.later hb
  clear hb F2
  go_wp2_with fail
  refine (new_none sm F2'.out).mono ?_
  rintro e w6 ⟨rfl, hd⟩
  have G0 : Hid (Fz w w6 [kr P (some p) (r0 sm), kd p n7 D7]) := hd
  clear hd F2'
  go_wp2_with fail
  refine (state_at (i := 0) G0.out rfl).mono ?_
  rintro e w' ⟨rfl, hw'⟩
  rw [hw']
  clear hw' w'
  go_wp2_with fail
  refine (step_at (i := 0) (j := 1) ht G0.out rfl rfl (by decide) ok1 (by decide)).mono ?_
  rintro e v1 ⟨rfl, hd⟩
  rw [st1] at hd
  rw [st1]
  obtain ⟨a1, b1, hal, hst, hk⟩ := Fz.keeprow (r := ⟨19, -1, zv, 0, 0⟩) hd (zs_len 32)
  obtain ⟨R1, hR⟩ : ∃ B, v1.heap.size = B := ⟨_, rfl⟩
  rw [hR] at hal hst hk
  have HAL : Hid (_) := hal
  have HST : Hid (_) := hst
  have G1 : Hid (Fz w b1 [kb R1 38 (rowc ⟨19, -1, zv, 0, 0⟩), kr P (some p) ⟨sm, 3, 0, 1, []⟩, kd p n7 D7]) := hk
  clear hd hk hal hst hR G0
  go_wp2_with ((with_reducible refine at_ops ?_); (first | (refine wpList_alloc_is (by rfl) 38 rfl HAL.out ?_) | (refine wpList_store_is (by rfl) 38 rfl rfl rfl HST.out ?_)); simp only [Act.put, List.setIfInBounds_toArray, List.set_cons_zero, List.set_cons_succ])
  clear HAL HST
  go_wp2_with fail
  refine (step_at (i := 1) (j := 2) ht G1.out rfl rfl (by decide) ok2 (by decide)).mono ?_
  rintro e v2 ⟨rfl, hd⟩
  rw [st2] at hd
  rw [st2]
  obtain ⟨a2, b2, hal, hst, hk⟩ := Fz.keeprow (r := ⟨12, -1, zv, 0, 0⟩) hd (zs_len 32)
  obtain ⟨R2, hR⟩ : ∃ B, v2.heap.size = B := ⟨_, rfl⟩
  rw [hR] at hal hst hk
  have HAL : Hid (_) := hal
  have HST : Hid (_) := hst
  have G2 : Hid (Fz w b2 [kb R2 38 (rowc ⟨12, -1, zv, 0, 0⟩), kb R1 38 (rowc ⟨19, -1, zv, 0, 0⟩), kr P (some p) ⟨sm, 4, 0, 1, []⟩, kd p n7 D7]) := hk
  clear hd hk hal hst hR G1
  go_wp2_with ((with_reducible refine at_ops ?_); (first | (refine wpList_alloc_is (by rfl) 38 rfl HAL.out ?_) | (refine wpList_store_is (by rfl) 38 rfl rfl rfl HST.out ?_)); simp only [Act.put, List.setIfInBounds_toArray, List.set_cons_zero, List.set_cons_succ])
  clear HAL HST
  go_wp2_with fail
  refine (step_at (i := 2) (j := 3) ht G2.out rfl rfl (by decide) ok3 (by decide)).mono ?_
  rintro e v3 ⟨rfl, hd⟩
  rw [st3] at hd
  rw [st3]
  obtain ⟨a3, b3, hal, hst, hk⟩ := Fz.keeprow (r := ⟨16, -1, zv, 4, 0⟩) hd (zs_len 32)
  obtain ⟨R3, hR⟩ : ∃ B, v3.heap.size = B := ⟨_, rfl⟩
  rw [hR] at hal hst hk
  have HAL : Hid (_) := hal
  have HST : Hid (_) := hst
  have G3 : Hid (Fz w b3 [kb R3 38 (rowc ⟨16, -1, zv, 4, 0⟩), kb R2 38 (rowc ⟨12, -1, zv, 0, 0⟩), kb R1 38 (rowc ⟨19, -1, zv, 0, 0⟩), kr P (some p) ⟨sm, 5, 0, 1, []⟩, kd p n7 D8]) := hk
  clear hd hk hal hst hR G2
  go_wp2_with ((with_reducible refine at_ops ?_); (first | (refine wpList_alloc_is (by rfl) 38 rfl HAL.out ?_) | (refine wpList_store_is (by rfl) 38 rfl rfl rfl HST.out ?_)); simp only [Act.put, List.setIfInBounds_toArray, List.set_cons_zero, List.set_cons_succ])
  clear HAL HST
  go_wp2_with fail
  refine (step_at (i := 3) (j := 4) ht G3.out rfl rfl (by decide) ok4 (by decide)).mono ?_
  rintro e v4 ⟨rfl, hd⟩
  rw [st4] at hd
  rw [st4]
  obtain ⟨a4, b4, hal, hst, hk⟩ := Fz.keeprow (r := ⟨20, -1, zv, 4, 0⟩) hd (zs_len 32)
  obtain ⟨R4, hR⟩ : ∃ B, v4.heap.size = B := ⟨_, rfl⟩
  rw [hR] at hal hst hk
  have HAL : Hid (_) := hal
  have HST : Hid (_) := hst
  have G4 : Hid (Fz w b4 [kb R4 38 (rowc ⟨20, -1, zv, 4, 0⟩), kb R3 38 (rowc ⟨16, -1, zv, 4, 0⟩), kb R2 38 (rowc ⟨12, -1, zv, 0, 0⟩), kb R1 38 (rowc ⟨19, -1, zv, 0, 0⟩), kr P (some p) ⟨sm, 6, 0, 1, []⟩, kd p n7 D8.fls]) := hk
  clear hd hk hal hst hR G3
  go_wp2_with ((with_reducible refine at_ops ?_); (first | (refine wpList_alloc_is (by rfl) 38 rfl HAL.out ?_) | (refine wpList_store_is (by rfl) 38 rfl rfl rfl HST.out ?_)); simp only [Act.put, List.setIfInBounds_toArray, List.set_cons_zero, List.set_cons_succ])
  clear HAL HST
  go_wp2_with fail
  refine (step_at (i := 4) (j := 5) ht G4.out rfl rfl (by decide) ok5 (by decide)).mono ?_
  rintro e v5 ⟨rfl, hd⟩
  rw [st5] at hd
  rw [st5]
  obtain ⟨a5, b5, hal, hst, hk⟩ := Fz.keeprow (r := ⟨0, 0, zv, 0, 0⟩) hd (zs_len 32)
  obtain ⟨R5, hR⟩ : ∃ B, v5.heap.size = B := ⟨_, rfl⟩
  rw [hR] at hal hst hk
  have HAL : Hid (_) := hal
  have HST : Hid (_) := hst
  have G5 : Hid (Fz w b5 [kb R5 38 (rowc ⟨0, 0, zv, 0, 0⟩), kb R4 38 (rowc ⟨20, -1, zv, 4, 0⟩), kb R3 38 (rowc ⟨16, -1, zv, 4, 0⟩), kb R2 38 (rowc ⟨12, -1, zv, 0, 0⟩), kb R1 38 (rowc ⟨19, -1, zv, 0, 0⟩), kr P (some p) ⟨sm, 6, 0, 1, []⟩, kd p n7 D8.fls]) := hk
  clear hd hk hal hst hR G4
  go_wp2_with ((with_reducible refine at_ops ?_); (first | (refine wpList_alloc_is (by rfl) 38 rfl HAL.out ?_) | (refine wpList_store_is (by rfl) 38 rfl rfl rfl HST.out ?_)); simp only [Act.put, List.setIfInBounds_toArray, List.set_cons_zero, List.set_cons_succ])
  clear HAL HST
  go_wp2_with fail
  refine (result_at (i := 5) G5.out rfl).mono ?_
  rintro e u0 ⟨rfl, hd⟩
  have K0 : Hid (Fz w u0 [kb R5 38 (rowc ⟨0, 0, zv, 0, 0⟩), kb R4 38 (rowc ⟨20, -1, zv, 4, 0⟩), kb R3 38 (rowc ⟨16, -1, zv, 4, 0⟩), kb R2 38 (rowc ⟨12, -1, zv, 0, 0⟩), kb R1 38 (rowc ⟨19, -1, zv, 0, 0⟩), kr P (some p) ⟨sm, 6, 0, 1, []⟩, kd p n7 D8.fls]) := hd
  clear hd G5
  have HLD : Hid (_) := loadRow (zs_len 32) (K0.out.atb (i := 4) rfl).1
  have HBD : Hid (_) := build_row4 u0 19
  go_wp2_with ((with_reducible refine at_ops ?_); (first | (refine wpList_load_is (by rfl) 38 rfl rfl HLD.out ?_) | (refine wpList_build_is (vs := [(0, .int .i64 19), (4, .int .i64 (-1))]) (by rfl) 38 rfl (by rfl) HBD.out ?_)); simp only [Act.put, List.setIfInBounds_toArray, List.set_cons_zero, List.set_cons_succ])
  refine (sameRow_eq ⟨19, -1, zv, 0, 0⟩ (zs_len 32) _).mono ?_
  rintro e u1 ⟨rfl, hb⟩
  have K1 : Hid (Fz w u1 [kb R5 38 (rowc ⟨0, 0, zv, 0, 0⟩), kb R4 38 (rowc ⟨20, -1, zv, 4, 0⟩), kb R3 38 (rowc ⟨16, -1, zv, 4, 0⟩), kb R2 38 (rowc ⟨12, -1, zv, 0, 0⟩), kb R1 38 (rowc ⟨19, -1, zv, 0, 0⟩), kr P (some p) ⟨sm, 6, 0, 1, []⟩, kd p n7 D8.fls]) := K0.out.later hb
  clear hb K0 HLD HBD
  have HLD : Hid (_) := loadRow (zs_len 32) (K1.out.atb (i := 3) rfl).1
  have HBD : Hid (_) := build_row4 u1 12
  go_wp2_with ((with_reducible refine at_ops ?_); (first | (refine wpList_load_is (by rfl) 38 rfl rfl HLD.out ?_) | (refine wpList_build_is (vs := [(0, .int .i64 12), (4, .int .i64 (-1))]) (by rfl) 38 rfl (by rfl) HBD.out ?_)); simp only [Act.put, List.setIfInBounds_toArray, List.set_cons_zero, List.set_cons_succ])
  refine (sameRow_eq ⟨12, -1, zv, 0, 0⟩ (zs_len 32) _).mono ?_
  rintro e u2 ⟨rfl, hb⟩
  have K2 : Hid (Fz w u2 [kb R5 38 (rowc ⟨0, 0, zv, 0, 0⟩), kb R4 38 (rowc ⟨20, -1, zv, 4, 0⟩), kb R3 38 (rowc ⟨16, -1, zv, 4, 0⟩), kb R2 38 (rowc ⟨12, -1, zv, 0, 0⟩), kb R1 38 (rowc ⟨19, -1, zv, 0, 0⟩), kr P (some p) ⟨sm, 6, 0, 1, []⟩, kd p n7 D8.fls]) := K1.out.later hb
  clear hb K1 HLD HBD
  have HLD : Hid (_) := loadRow (zs_len 32) (K2.out.atb (i := 2) rfl).1
  have HBD : Hid (_) := build_row6 u2 16 4
  go_wp2_with ((with_reducible refine at_ops ?_); (first | (refine wpList_load_is (by rfl) 38 rfl rfl HLD.out ?_) | (refine wpList_build_is (vs := [(0, .int .i64 16), (4, .int .i64 (-1)), (6, .int .u64 4)]) (by rfl) 38 rfl (by rfl) HBD.out ?_)); simp only [Act.put, List.setIfInBounds_toArray, List.set_cons_zero, List.set_cons_succ])
  refine (sameRow_eq ⟨16, -1, zv, 4, 0⟩ (zs_len 32) _).mono ?_
  rintro e u3 ⟨rfl, hb⟩
  have K3 : Hid (Fz w u3 [kb R5 38 (rowc ⟨0, 0, zv, 0, 0⟩), kb R4 38 (rowc ⟨20, -1, zv, 4, 0⟩), kb R3 38 (rowc ⟨16, -1, zv, 4, 0⟩), kb R2 38 (rowc ⟨12, -1, zv, 0, 0⟩), kb R1 38 (rowc ⟨19, -1, zv, 0, 0⟩), kr P (some p) ⟨sm, 6, 0, 1, []⟩, kd p n7 D8.fls]) := K2.out.later hb
  clear hb K2 HLD HBD
  have HLD : Hid (_) := loadRow (zs_len 32) (K3.out.atb (i := 1) rfl).1
  have HBD : Hid (_) := build_row6 u3 20 4
  go_wp2_with ((with_reducible refine at_ops ?_); (first | (refine wpList_load_is (by rfl) 38 rfl rfl HLD.out ?_) | (refine wpList_build_is (vs := [(0, .int .i64 20), (4, .int .i64 (-1)), (6, .int .u64 4)]) (by rfl) 38 rfl (by rfl) HBD.out ?_)); simp only [Act.put, List.setIfInBounds_toArray, List.set_cons_zero, List.set_cons_succ])
  refine (sameRow_eq ⟨20, -1, zv, 4, 0⟩ (zs_len 32) _).mono ?_
  rintro e u4 ⟨rfl, hb⟩
  have K4 : Hid (Fz w u4 [kb R5 38 (rowc ⟨0, 0, zv, 0, 0⟩), kb R4 38 (rowc ⟨20, -1, zv, 4, 0⟩), kb R3 38 (rowc ⟨16, -1, zv, 4, 0⟩), kb R2 38 (rowc ⟨12, -1, zv, 0, 0⟩), kb R1 38 (rowc ⟨19, -1, zv, 0, 0⟩), kr P (some p) ⟨sm, 6, 0, 1, []⟩, kd p n7 D8.fls]) := K3.out.later hb
  clear hb K3 HLD HBD
  go_wp2_with fail
  refine (state_at (i := 5) K4.out rfl).mono ?_
  rintro e w' ⟨rfl, hw'⟩
  rw [hw']
  clear hw' w'
  go_wp2_with fail
  refine (left_at (i := 5) K4.out rfl (by decide)).mono ?_
  rintro e u5 ⟨v, rfl, hd⟩
  obtain ⟨t, G, rfl, ho, -⟩ := hd.at (i := 0) rfl
  obtain ⟨av, cv, ev, -⟩ := IOwn.in ho ImsWf.nil
  have HZ : Hid (Below w.heap.size w u5) := hd.below
  subst ev
  clear ho hd K4
  go_wp2
  go_ret
  exact ⟨rfl, HZ.out⟩
end
end Go.Proofs.YtdadpepfpiimgaaDoor.Q
namespace Go.Proofs.YtdadpepfpiimgaaDoor.Q
open Go.RowKit
open Go.ChangeShapes Go.WideShapes Go.ChangeAt Go.Deep
theorem ownK : ownKnob Tryd.prog.godebug = none := by kernel_rfl
theorem gHalves : Tryd.prog.globalNamed "wicket/sum.halves" = some 1 := by kernel_rfl
theorem tHalves : (Tryd.prog.globals[1]?).map (·.type) = some 120 := by kernel_rfl
theorem gFields : Tryd.prog.globalNamed "wicket/super.fields" = some 0 := by kernel_rfl
theorem tFields : (Tryd.prog.globals[0]?).map (·.type) = some 72 := by kernel_rfl
theorem cells38 : Tryd.prog.cellsOf 75 = 1 := by kernel_rfl
theorem cells78 : Tryd.prog.cellsOf 120 = 16 := by kernel_rfl
theorem cells62 : Tryd.prog.cellsOf 71 = 2 := by kernel_rfl
theorem cells3 : Tryd.prog.cellsOf 3 = 1 := by kernel_rfl
def zs16 : List Int := [0, 498536548, 997073096, 651767980, 1994146192, 1802195444, 1303535960, 1342533948, 3988292384, 4027552580, 3604390888, 3412177804, 2607071920, 2262029012, 2685067896, 3183342108]
theorem zs16_table : ∀ i, i < 16 → zs16[i]? = some ((table.getD i 0 : Nat) : Int) := by decide
abbrev laidS : List (String × DataW Unit) := [("wicket/sum.halves", Rows.laid_wicket_sum_halves), ("wicket/super.fields", Rows.laid_wicket_super_fields)]
theorem door_met (os : Os) (args : Array Value) : laidMetH Tryd.prog laidS ((World.doorLaid Tryd.prog 400 os).forCall (fun _ _ => 0) ⟨#[], args, []⟩).memory :=
  laidMetH_of_parts3 (fuel := 8) (laidMet_of_run' 8 (by kernel_rfl) (by kernel_rfl)) (by kernel_rfl) (by kernel_rfl)
def pairD {H : Type} (a k : Nat) : DataW H := .agg [.lit (.int .i64 (a : Int)), .lit (.int .i64 (k : Int))]
theorem drop_one {α : Type} (l : List α) (i : Nat) (v : α) (h : (l.drop i).take 1 = [v]) : l[i]? = some v := by
  have e : ((l.drop i).take 1)[0]? = some v := by rw [h]; rfl
  rw [List.getElem?_take, if_pos (by omega), List.getElem?_drop] at e
  exact e
theorem pair_of {H : Type} {enc : TypeId × Value → H} {W : World} {b : Nat} {sp : Nat → Bool} {held : Bool} {m : Nat} {cs : List Value} {p : List MemPlace} {a k : Nat} (h : DataW.trod enc Tryd.prog W b sp held m 71 cs = some (pairD a k, p)) :
    cs[0]? = some (.int .i64 (a : Int)) ∧ cs[1]? = some (.int .i64 (k : Int)) := by
  obtain ⟨xs, n, _, e, _, hxl, hg⟩ := DataW.trod_struct Tryd.underlying71 h
  have hxl2 : xs.length = 2 := hxl
  have g0 : DataW.trod enc Tryd.prog W b sp held n 3 ((cs.drop 0).take (Tryd.prog.cellsOf 3)) = xs[0]? := hg 0 _ rfl
  have g1 : DataW.trod enc Tryd.prog W b sp held n 3 ((cs.drop 1).take (Tryd.prog.cellsOf 3)) = xs[1]? := hg 1 _ rfl
  rw [cells3, List.getElem?_eq_getElem (by omega)] at g0 g1
  obtain ⟨a0, e0, d0, _⟩ := DataW.trod_int Tryd.underlying3 g0
  obtain ⟨a1, e1, d1, _⟩ := DataW.trod_int Tryd.underlying3 g1
  have f0 := drop_one _ _ _ e0
  have f1 := drop_one _ _ _ e1
  have ed := congrArg Prod.fst e
  match xs, hxl2 with
  | [y0, y1], _ =>
    simp only [List.getElem_cons_zero, List.getElem_cons_succ] at d0 d1
    rw [d0, d1] at ed
    simp [pairD] at ed
    rw [f0, f1, ed.1, ed.2]
    exact ⟨rfl, rfl⟩
def fdata {H : Type} : List (DataW H) := [pairD 6 1, pairD 8 1, pairD 9 1, pairD 10 1, pairD 11 1, pairD 12 1, pairD 16 8, pairD 24 8]
theorem fdata_at {H : Type} (i : Nat) (h : i < 8) : (fdata (H := H))[i]? = some (pairD (fa.getD i 0) (fw.getD i 0)) := by
  have : i = 0 ∨ i = 1 ∨ i = 2 ∨ i = 3 ∨ i = 4 ∨ i = 5 ∨ i = 6 ∨ i = 7 := by omega
  rcases this with rfl | rfl | rfl | rfl | rfl | rfl | rfl | rfl <;> rfl
theorem flds_of {H : Type} {enc : TypeId × Value → H} {W : World} {b : Nat} {sp : Nat → Bool} {held : Bool} {m : Nat} {cs : List Value} {p : List MemPlace} (h : DataW.trod enc Tryd.prog W b sp held m 72 cs = some (.agg fdata, p)) (i : Nat) (hi : i < 8) :
    cs[2 * i]? = some (.int .i64 ((fa.getD i 0 : Nat) : Int)) ∧ cs[2 * i + 1]? = some (.int .i64 ((fw.getD i 0 : Nat) : Int)) := by
  obtain ⟨xs, m', _, e, _, hxl, hf⟩ := DataW.trod_array Tryd.underlying72 h
  have e1 : fdata = xs.map (·.1) := by
    have := congrArg Prod.fst e
    injection this
  have g := hf i hi
  rw [cells62] at g
  have hx : (xs.map (·.1))[i]? = some (pairD (fa.getD i 0) (fw.getD i 0)) := by rw [← e1]; exact fdata_at i hi
  rw [List.getElem?_map] at hx
  obtain ⟨y, hy, hy1⟩ := Option.map_eq_some_iff.1 hx
  rw [hy] at g
  obtain ⟨d, pp⟩ := y
  simp only at hy1
  subst hy1
  have hp := pair_of g
  rw [List.getElem?_take, if_pos (by omega), List.getElem?_drop, List.getElem?_take, if_pos (by omega), List.getElem?_drop] at hp
  rw [show i * 2 + 0 = 2 * i by omega, show i * 2 + 1 = 2 * i + 1 by omega] at hp
  exact hp
theorem tab_of {W : World} (h : laidMetH Tryd.prog laidS W) : Tab W := by
  rw [MakeChecks.laidMetH_plain _ _ _ (by kernel_rfl)] at h
  have h' : laidMet Tryd.prog [("wicket/sum.halves", Lib.tabData .u32 zs16), ("wicket/super.fields", .agg fdata)] W := h
  refine ⟨?_, ?_⟩
  · have hT := Lib.tabIs_of_head gHalves tHalves Tryd.underlying120 Tryd.underlying75 cells38 cells78 h'
    intro i hi
    rw [World.var?_cell gHalves hT i]
    have := zs16_table i hi
    simp [this]
  · obtain ⟨ps, ⟨g', t', cs, fuel, p, q, hg', ht', hvar, hd, _, _⟩, _⟩ := h'.tail
    obtain rfl := Option.some.inj (gFields.symm.trans hg')
    obtain rfl := Option.some.inj (tFields.symm.trans ht')
    intro i hi
    have hf := flds_of hd i hi
    rw [World.var?_cell gFields hvar (2 * i), World.var?_cell gFields hvar (2 * i + 1)]
    simpa using hf
end Go.Proofs.YtdadpepfpiimgaaDoor.Q
namespace Go.Proofs.YtdadpepfpiimgaaDoor.Q
open Go.RowKit
section
variable {w0 w : World} {X : List Kd} {i j P p n : Nat} {q : Option Nat} {D : Dd} {x : Rc}
def so : Sup := ⟨2, 4, 2, 3, 1, 0, 0⟩
theorem so_may : MayC so := by decide
abbrev D0 (n : Nat) : Dd := ⟨List.replicate (64 * n) 0, []⟩
theorem other3 : (rdL so (cntS sm) (newest [] (newS sm))).2 = 3 := by
  have h0 : newest [] (newS sm) 0 = encS (sup1 sm) := by rw [newest_nil]; exact newS_sup sm
  have hd : decS (newest [] (newS sm) 0) = (sup1 sm, 0) := by rw [h0]; exact decS_encS _ (sup1_wf sm_may) (sup1_may sm_may)
  have e : supOf so (cntS sm) (newest [] (newS sm)) = (sup0, 3) := supOf_other so_may rfl (by rw [hd]) (by rw [hd]; decide)
  rw [rdL_no (by rw [e]; decide), e]
theorem blank70 : (rdL sm (7 : Nat) (newest [] (D0 7).d)).2 = 70 := by
  have h0 : newest [] (D0 7).d 0 = List.replicate 64 0 := by rw [newest_nil]; rfl
  have hd : (decS (newest [] (D0 7).d 0)).2 = 70 := by rw [h0]; decide
  have e : supOf sm (7 : Nat) (newest [] (D0 7).d) = (sup0, (decS (newest [] (D0 7).d 0)).2) := supOf_bad sm_may rfl (by rw [hd]; decide)
  rw [rdL_no (by rw [e, hd]; decide), e, hd]
theorem ste1 : stepS n7 (r0 so) D7 = ⟨⟨0, 0, zv, 0, 0⟩, 3, r0 so, D7⟩ := by
  have e : rdE n7 so D7 = 3 := by unfold rdE; rw [if_neg (by rw [show (rdL so n7 D7.rd).2 = 3 from other3]; decide)]; exact other3
  rw [step_bad rfl (by rw [e]; decide), e]; rfl
theorem ste2 : stepS (7 : Nat) (r0 sm) (D0 7) = ⟨⟨0, 0, zv, 0, 0⟩, 70, r0 sm, D0 7⟩ := by
  have e : rdE (7 : Nat) sm (D0 7) = 70 := by unfold rdE; rw [if_neg (by rw [show (rdL sm (7 : Nat) (D0 7).rd).2 = 70 from blank70]; decide)]; exact blank70
  rw [step_bad rfl (by rw [e]; decide), e]; rfl
theorem oko : (r0 so).Ok n7 := start_ok so_may rfl
theorem okb : (r0 sm).Ok 7 := start_ok sm_may rfl
theorem alloc_cfg (w : World) : (Instr.alloc 28 true (.tuple #[])).run Tryd.prog w = .ok (.pointer (some ⟨w.heap.size, 0, none⟩)) (w.alloc (.cells (ccells sup0).toArray 28)) := by
  have hz : (Tryd.prog.info? 28).bind (·.zero) = some (.agg (ccells sup0).toArray) := by kernel_rfl
  simp only [Instr.alloc, Sem.run_bind, Go.Proofs.YtdadpepfpiimgaaDoor.zv 28 _ hz, Result.andThen_ok]
  simp [newVar, newRow, Value.cells]
theorem store_cfg (w : World) (s : Sup) : (Instr.storeAt 28 (.pointer (some ⟨w.heap.size, 0, none⟩)) (.agg (ccells s).toArray)).run Tryd.prog (w.alloc (.cells (ccells sup0).toArray 28)) = .ok () (w.alloc (.cells (ccells s).toArray 28)) := by
  rw [(LAt.new 28 w (ccells sup0)).store (ds := ccells s) (by rw [size_cfg]; rfl) rfl (by simp [ccells, Value.oneCell']), setRow_alloc]
set_option maxHeartbeats 20000000 in
set_option maxRecDepth 100000 in
theorem redoNames_any (ht : Tab w) : Calls Tryd.prog 3 #[] w fun e w' => e = .returned (.bool true) ∧ Below w.heap.size w w' := by
  have F0 : Hid (Fz w w []) := Fz.start w
  go_enter Tryd.func3, Tryd.ntmps3
  go_wp2_with fail
  refine (fixed_is ht).mono ?_
  rintro e u1 ⟨rfl, hb⟩
  have G1 : Hid (Fz w u1 []) := F0.out.later hb
  clear hb F0
  go_wp2_with fail
  refine (small_is _).mono ?_
  rintro e u2 ⟨rfl, hb⟩
  have G2 : Hid (Fz w u2 []) := G1.out.later hb
  clear hb G1
  go_wp2_with fail
  refine (hnew_good sm sm_may _ (G2.out.tab ht)).mono ?_
  rintro e u3 ⟨p, rfl, hd, hb⟩
  have G3 : Hid (Fz w u3 [kd p n7 D7]) := G2.out.newd hb hd
  clear hb hd G2
  go_wp2_with fail
  refine (small_is _).mono ?_
  rintro e u4 ⟨rfl, hb⟩
  have G4 : Hid (Fz w u4 [kd p n7 D7]) := G3.out.later hb
  clear hb G3
  obtain ⟨O, hO⟩ : ∃ B, u4.heap.size = B := ⟨_, rfl⟩
  have HAO : Hid ((Instr.alloc 28 true (.tuple #[])).run Tryd.prog u4 = .ok (.pointer (some ⟨O, 0, none⟩)) (u4.alloc (.cells (ccells sup0).toArray 28))) := by rw [← hO]; exact alloc_cfg u4
  have HSO : Hid ((Instr.storeAt 28 (.pointer (some ⟨O, 0, none⟩)) (.agg (ccells sm).toArray)).run Tryd.prog (u4.alloc (.cells (ccells sup0).toArray 28)) = .ok () (u4.alloc (.cells (ccells sm).toArray 28))) := by rw [← hO]; exact store_cfg u4 sm
  have hn := G4.out.newa (ccells sm) 28
  rw [hO] at hn
  obtain ⟨u5, hu5⟩ : ∃ W, u4.alloc (.cells (ccells sm).toArray 28) = W := ⟨_, rfl⟩
  rw [hu5] at hn HSO
  have G5 : Hid (Fz w u5 [kb O 28 (ccells sm), kd p n7 D7]) := hn
  clear hn G4
  have lO := (G5.out.atb (i := 0) rfl).1
  have o3 : u5.cell? ⟨O, 3, none⟩ = some (.int .i64 4) := by rw [LAt.cell lO 3]; rfl
  have fO : u5.frozen? ⟨O, 3, none⟩ = false := frozen_row lO
  have hn := Fz.cell (i := 0) G5.out rfl 3 (.int .i64 3)
  obtain ⟨u6, hu6⟩ : ∃ W, u5.setCell ⟨O, 3, none⟩ (.int .i64 3) = W := ⟨_, rfl⟩
  rw [hu6] at hn
  have G6 : Hid (Fz w u6 [kb O 28 (ccells so), kd p n7 D7]) := hn
  clear hn lO G5
  have HLO : Hid (_) := loadC (G6.out.atb (i := 0) rfl).1
  go_wp2_with ((with_reducible refine at_ops ?_); (first | (refine wpList_alloc_is (by rfl) 28 rfl HAO.out ?_) | (refine wpList_store_is (by rfl) 28 rfl rfl rfl HSO.out ?_) | (refine wpList_load_is (by rfl) 28 rfl rfl HLO.out ?_)); simp only [Act.put, List.setIfInBounds_toArray, List.set_cons_zero, List.set_cons_succ])
  refine (new_ok (j := 1) so so_may G6.out rfl rfl).mono ?_
  rintro e u7 ⟨P, rfl, hd⟩
  have G7 : Hid (Fz w u7 [kr P (some p) (r0 so), kb O 28 (ccells so), kd p n7 D7]) := hd
  clear hd G6
  clear HAO HSO HLO o3 fO
  go_wp2_with fail
  refine (step_at (i := 0) (j := 2) ht G7.out rfl rfl (by decide) oko (by decide)).mono ?_
  rintro e u8 ⟨rfl, hd⟩
  rw [ste1] at hd
  rw [ste1]
  have G8 : Hid (Fz w u8 [kr P (some p) (r0 so), kb O 28 (ccells so), kd p n7 D7]) := hd
  clear hd G7
  obtain ⟨a9, u9, hal, hst, hk⟩ := Fz.keeprow (r := ⟨0, 0, zv, 0, 0⟩) G8.out (zs_len 32)
  obtain ⟨R9, hR⟩ : ∃ B, u8.heap.size = B := ⟨_, rfl⟩
  rw [hR] at hal hst hk
  have HAL : Hid (_) := hal
  have HST : Hid (_) := hst
  have G9 : Hid (Fz w u9 [kb R9 38 (rowc ⟨0, 0, zv, 0, 0⟩), kr P (some p) (r0 so), kb O 28 (ccells so), kd p n7 D7]) := hk
  clear hal hst hR G8
  go_wp2_with ((with_reducible refine at_ops ?_); (first | (refine wpList_alloc_is (by rfl) 38 rfl HAL.out ?_) | (refine wpList_store_is (by rfl) 38 rfl rfl rfl HST.out ?_)); simp only [Act.put, List.setIfInBounds_toArray, List.set_cons_zero, List.set_cons_succ])
  clear HAL HST
  go_wp2_with fail
  refine (step_at (i := 1) (j := 3) ht G9.out rfl rfl (by decide) oko (by decide)).mono ?_
  rintro e u10 ⟨rfl, hd⟩
  rw [ste1] at hd
  rw [ste1]
  have G10 : Hid (Fz w u10 [kb R9 38 (rowc ⟨0, 0, zv, 0, 0⟩), kr P (some p) (r0 so), kb O 28 (ccells so), kd p n7 D7]) := hd
  clear hd G9
  obtain ⟨a11, u11, hal, hst, hk⟩ := Fz.keeprow (r := ⟨0, 0, zv, 0, 0⟩) G10.out (zs_len 32)
  obtain ⟨R11, hR⟩ : ∃ B, u10.heap.size = B := ⟨_, rfl⟩
  rw [hR] at hal hst hk
  have HAL : Hid (_) := hal
  have HST : Hid (_) := hst
  have G11 : Hid (Fz w u11 [kb R11 38 (rowc ⟨0, 0, zv, 0, 0⟩), kb R9 38 (rowc ⟨0, 0, zv, 0, 0⟩), kr P (some p) (r0 so), kb O 28 (ccells so), kd p n7 D7]) := hk
  clear hal hst hR G10
  go_wp2_with ((with_reducible refine at_ops ?_); (first | (refine wpList_alloc_is (by rfl) 38 rfl HAL.out ?_) | (refine wpList_store_is (by rfl) 38 rfl rfl rfl HST.out ?_)); simp only [Act.put, List.setIfInBounds_toArray, List.set_cons_zero, List.set_cons_succ])
  clear HAL HST
  go_wp2_with fail
  refine (new_good 7 _ (by decide) (by decide)).mono ?_
  rintro e u12 ⟨pb, rfl, hd, hb⟩
  have G12 : Hid (Fz w u12 [kd pb 7 (D0 7), kb R11 38 (rowc ⟨0, 0, zv, 0, 0⟩), kb R9 38 (rowc ⟨0, 0, zv, 0, 0⟩), kr P (some p) (r0 so), kb O 28 (ccells so), kd p n7 D7]) := G11.out.newd (D := D0 7) hb hd
  clear hb hd G11
  go_wp2_with fail
  refine (small_is _).mono ?_
  rintro e u13 ⟨rfl, hb⟩
  have G13 : Hid (Fz w u13 [kd pb 7 (D0 7), kb R11 38 (rowc ⟨0, 0, zv, 0, 0⟩), kb R9 38 (rowc ⟨0, 0, zv, 0, 0⟩), kr P (some p) (r0 so), kb O 28 (ccells so), kd p n7 D7]) := G12.out.later hb
  clear hb G12
  go_wp2_with fail
  refine (new_ok (j := 0) sm sm_may G13.out rfl rfl).mono ?_
  rintro e u14 ⟨Qb, rfl, hd⟩
  have G14 : Hid (Fz w u14 [kr Qb (some pb) (r0 sm), kd pb 7 (D0 7), kb R11 38 (rowc ⟨0, 0, zv, 0, 0⟩), kb R9 38 (rowc ⟨0, 0, zv, 0, 0⟩), kr P (some p) (r0 so), kb O 28 (ccells so), kd p n7 D7]) := hd
  clear hd G13
  go_wp2_with fail
  refine (step_at (i := 0) (j := 1) ht G14.out rfl rfl (by decide) okb (by decide)).mono ?_
  rintro e u15 ⟨rfl, hd⟩
  rw [ste2] at hd
  rw [ste2]
  have G15 : Hid (Fz w u15 [kr Qb (some pb) (r0 sm), kd pb 7 (D0 7), kb R11 38 (rowc ⟨0, 0, zv, 0, 0⟩), kb R9 38 (rowc ⟨0, 0, zv, 0, 0⟩), kr P (some p) (r0 so), kb O 28 (ccells so), kd p n7 D7]) := hd
  clear hd G14
  obtain ⟨a16, u16, hal, hst, hk⟩ := Fz.keeprow (r := ⟨0, 0, zv, 0, 0⟩) G15.out (zs_len 32)
  obtain ⟨R16, hR⟩ : ∃ B, u15.heap.size = B := ⟨_, rfl⟩
  rw [hR] at hal hst hk
  have HAL : Hid (_) := hal
  have HST : Hid (_) := hst
  have G16 : Hid (Fz w u16 [kb R16 38 (rowc ⟨0, 0, zv, 0, 0⟩), kr Qb (some pb) (r0 sm), kd pb 7 (D0 7), kb R11 38 (rowc ⟨0, 0, zv, 0, 0⟩), kb R9 38 (rowc ⟨0, 0, zv, 0, 0⟩), kr P (some p) (r0 so), kb O 28 (ccells so), kd p n7 D7]) := hk
  clear hal hst hR G15
  go_wp2_with ((with_reducible refine at_ops ?_); (first | (refine wpList_alloc_is (by rfl) 38 rfl HAL.out ?_) | (refine wpList_store_is (by rfl) 38 rfl rfl rfl HST.out ?_)); simp only [Act.put, List.setIfInBounds_toArray, List.set_cons_zero, List.set_cons_succ])
  clear HAL HST
  have HBC : Hid ((Instr.build 28 #[]).run Tryd.prog u16 = .ok (.agg (ccells sup0).toArray) u16) := run_build _ 28 _ _ (by kernel_rfl)
  go_wp2_with ((with_reducible refine at_ops ?_); (refine wpList_build_is (vs := []) (by rfl) 28 rfl (by rfl) HBC.out ?_); simp only [Act.put, List.setIfInBounds_toArray, List.set_cons_zero, List.set_cons_succ])
  refine (new_bad sup0 (by decide) G16.out).mono ?_
  rintro e u17 ⟨rfl, hd⟩
  have G17 : Hid (Fz w u17 [kb R16 38 (rowc ⟨0, 0, zv, 0, 0⟩), kr Qb (some pb) (r0 sm), kd pb 7 (D0 7), kb R11 38 (rowc ⟨0, 0, zv, 0, 0⟩), kb R9 38 (rowc ⟨0, 0, zv, 0, 0⟩), kr P (some p) (r0 so), kb O 28 (ccells so), kd p n7 D7]) := hd
  clear hd G16
  clear HBC
  go_wp2_with fail
  refine (new_good 6 _ (by decide) (by decide)).mono ?_
  rintro e u18 ⟨pc, rfl, hd, hb⟩
  have G18 : Hid (Fz w u18 [kd pc 6 (D0 6), kb R16 38 (rowc ⟨0, 0, zv, 0, 0⟩), kr Qb (some pb) (r0 sm), kd pb 7 (D0 7), kb R11 38 (rowc ⟨0, 0, zv, 0, 0⟩), kb R9 38 (rowc ⟨0, 0, zv, 0, 0⟩), kr P (some p) (r0 so), kb O 28 (ccells so), kd p n7 D7]) := G17.out.newd (D := D0 6) hb hd
  clear hb hd G17
  go_wp2_with fail
  refine (small_is _).mono ?_
  rintro e u19 ⟨rfl, hb⟩
  have G19 : Hid (Fz w u19 [kd pc 6 (D0 6), kb R16 38 (rowc ⟨0, 0, zv, 0, 0⟩), kr Qb (some pb) (r0 sm), kd pb 7 (D0 7), kb R11 38 (rowc ⟨0, 0, zv, 0, 0⟩), kb R9 38 (rowc ⟨0, 0, zv, 0, 0⟩), kr P (some p) (r0 so), kb O 28 (ccells so), kd p n7 D7]) := G18.out.later hb
  clear hb G18
  go_wp2_with fail
  refine (new_len (j := 0) sm sm_may G19.out rfl (by decide)).mono ?_
  rintro e u20 ⟨rfl, hd⟩
  have G20 : Hid (Fz w u20 [kd pc 6 (D0 6), kb R16 38 (rowc ⟨0, 0, zv, 0, 0⟩), kr Qb (some pb) (r0 sm), kd pb 7 (D0 7), kb R11 38 (rowc ⟨0, 0, zv, 0, 0⟩), kb R9 38 (rowc ⟨0, 0, zv, 0, 0⟩), kr P (some p) (r0 so), kb O 28 (ccells so), kd p n7 D7]) := hd
  clear hd G19
  go_wp2_with fail
  refine (on_at (i := 6) G20.out rfl none).mono ?_
  rintro e u21 ⟨V, rfl, hd⟩
  have G21 : Hid (Fz w u21 [kr V none (r0 so), kd pc 6 (D0 6), kb R16 38 (rowc ⟨0, 0, zv, 0, 0⟩), kr Qb (some pb) (r0 sm), kd pb 7 (D0 7), kb R11 38 (rowc ⟨0, 0, zv, 0, 0⟩), kb R9 38 (rowc ⟨0, 0, zv, 0, 0⟩), kr P (some p) (r0 so), kb O 28 (ccells so), kd p n7 D7]) := hd
  clear hd G20
  go_wp2_with fail
  refine (step_none (i := 0) ht G21.out rfl oko).mono ?_
  rintro e u22 ⟨rfl, hd⟩
  have G22 : Hid (Fz w u22 [kr V none (r0 so), kd pc 6 (D0 6), kb R16 38 (rowc ⟨0, 0, zv, 0, 0⟩), kr Qb (some pb) (r0 sm), kd pb 7 (D0 7), kb R11 38 (rowc ⟨0, 0, zv, 0, 0⟩), kb R9 38 (rowc ⟨0, 0, zv, 0, 0⟩), kr P (some p) (r0 so), kb O 28 (ccells so), kd p n7 D7]) := hd
  clear hd G21
  rw [if_neg (by decide)]
  obtain ⟨a23, u23, hal, hst, hk⟩ := Fz.keeprow (r := ⟨0, 0, zv, 0, 0⟩) G22.out (zs_len 32)
  obtain ⟨R23, hR⟩ : ∃ B, u22.heap.size = B := ⟨_, rfl⟩
  rw [hR] at hal hst hk
  have HAL : Hid (_) := hal
  have HST : Hid (_) := hst
  have G23 : Hid (Fz w u23 [kb R23 38 (rowc ⟨0, 0, zv, 0, 0⟩), kr V none (r0 so), kd pc 6 (D0 6), kb R16 38 (rowc ⟨0, 0, zv, 0, 0⟩), kr Qb (some pb) (r0 sm), kd pb 7 (D0 7), kb R11 38 (rowc ⟨0, 0, zv, 0, 0⟩), kb R9 38 (rowc ⟨0, 0, zv, 0, 0⟩), kr P (some p) (r0 so), kb O 28 (ccells so), kd p n7 D7]) := hk
  clear hal hst hR G22
  go_wp2_with ((with_reducible refine at_ops ?_); (first | (refine wpList_alloc_is (by rfl) 38 rfl HAL.out ?_) | (refine wpList_store_is (by rfl) 38 rfl rfl rfl HST.out ?_)); simp only [Act.put, List.setIfInBounds_toArray, List.set_cons_zero, List.set_cons_succ])
  clear HAL HST
  go_wp2_with fail
  refine (step_nil G23.out).mono ?_
  rintro e u24 ⟨rfl, hd⟩
  have G24 : Hid (Fz w u24 [kb R23 38 (rowc ⟨0, 0, zv, 0, 0⟩), kr V none (r0 so), kd pc 6 (D0 6), kb R16 38 (rowc ⟨0, 0, zv, 0, 0⟩), kr Qb (some pb) (r0 sm), kd pb 7 (D0 7), kb R11 38 (rowc ⟨0, 0, zv, 0, 0⟩), kb R9 38 (rowc ⟨0, 0, zv, 0, 0⟩), kr P (some p) (r0 so), kb O 28 (ccells so), kd p n7 D7]) := hd
  clear hd G23
  obtain ⟨a25, u25, hal, hst, hk⟩ := Fz.keeprow (r := ⟨0, 0, zv, 0, 0⟩) G24.out (zs_len 32)
  obtain ⟨R25, hR⟩ : ∃ B, u24.heap.size = B := ⟨_, rfl⟩
  rw [hR] at hal hst hk
  have HAL : Hid (_) := hal
  have HST : Hid (_) := hst
  have G25 : Hid (Fz w u25 [kb R25 38 (rowc ⟨0, 0, zv, 0, 0⟩), kb R23 38 (rowc ⟨0, 0, zv, 0, 0⟩), kr V none (r0 so), kd pc 6 (D0 6), kb R16 38 (rowc ⟨0, 0, zv, 0, 0⟩), kr Qb (some pb) (r0 sm), kd pb 7 (D0 7), kb R11 38 (rowc ⟨0, 0, zv, 0, 0⟩), kb R9 38 (rowc ⟨0, 0, zv, 0, 0⟩), kr P (some p) (r0 so), kb O 28 (ccells so), kd p n7 D7]) := hk
  clear hal hst hR G24
  go_wp2_with ((with_reducible refine at_ops ?_); (first | (refine wpList_alloc_is (by rfl) 38 rfl HAL.out ?_) | (refine wpList_store_is (by rfl) 38 rfl rfl rfl HST.out ?_)); simp only [Act.put, List.setIfInBounds_toArray, List.set_cons_zero, List.set_cons_succ])
  clear HAL HST
  go_wp2_with fail
  refine (result_nil _).mono ?_
  rintro e w' ⟨rfl, hw'⟩
  rw [hw']
  clear hw' w'
  go_wp2_with fail
  refine (state_at (i := 9) G25.out rfl).mono ?_
  rintro e w' ⟨rfl, hw'⟩
  rw [hw']
  clear hw' w'
  go_wp2_with fail
  refine (state_nil _).mono ?_
  rintro e w' ⟨rfl, hw'⟩
  rw [hw']
  clear hw' w'
  go_wp2_with fail
  refine (left_nil _).mono ?_
  rintro e w' ⟨rfl, hw'⟩
  rw [hw']
  clear hw' w'
  go_wp2_with fail
  refine (on_nil _ _).mono ?_
  rintro e w' ⟨rfl, hw'⟩
  rw [hw']
  clear hw' w'
  have HZ : Hid (Below w.heap.size w u25) := G25.out.below
  clear G25
  go_wp2
  go_ret
  exact ⟨rfl, HZ.out⟩
end
end Go.Proofs.YtdadpepfpiimgaaDoor.Q
