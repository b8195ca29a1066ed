import Derived.Test.YtdadpepfpiimgaaDoorX17
set_option maxHeartbeats 20000000
set_option maxRecDepth 100000
namespace Go.Proofs.YtdadpepfpiimgaaDoor.Q
open Go.RowKit
section
variable {w0 w : World} {X : List Kd} {i j P p n : Nat} {q : Option Nat} {D : Dd} {x : Rc}
theorem size_redo : (Tryd.prog.info? 58).map (·.size) = some 10 := by kernel_rfl
abbrev r0 (c : Sup) : Rc := ⟨c, 1, 0, 0, []⟩
theorem build_redo (w : World) (p : Nat) (c : Sup) : (Instr.build 58 #[(0, qp p), (1, .agg (ccells c).toArray), (2, .int .i64 1)]).run Tryd.prog w = .ok (.agg (pcl (some p) (r0 c) (.slice none 0 0)).toArray) w := run_build w 58 _ _ (by kernel_rfl)
theorem cfg_ok {c : Sup} (h : MayC c) : cfg c = 0 := if_pos h
theorem cfg_bad {c : Sup} (h : ¬ MayC c) : cfg c = 3 := if_neg h
theorem Fz.cbox (h : Fz w0 w X) (c : Sup) : Fz w0 (w.alloc (.cells (ccells c).toArray 28)) (kb w.heap.size 28 (ccells c) :: X) := h.newa _ _
theorem loadC {B : Nat} {c : Sup} (h : LAt 28 w B (ccells c)) : (Instr.loadAt 28 (.pointer (some ⟨B, 0, none⟩))).run Tryd.prog w = .ok (.agg (ccells c).toArray) w := run_loadAt_mid w B 0 28 (ccells c) _ (LAt.range h) Tryd.underlying28 rfl (by kernel_rfl)
theorem cf0 {B : Nat} {c : Sup} (h : LAt 28 w B (ccells c)) : w.cell? ⟨B, 0, none⟩ = some (.int .i64 c.bl) := by rw [LAt.cell h 0]; rfl
theorem cf1 {B : Nat} {c : Sup} (h : LAt 28 w B (ccells c)) : w.cell? ⟨B, 1, none⟩ = some (.int .i64 c.lc) := by rw [LAt.cell h 1]; rfl
set_option maxHeartbeats 2000000 in
set_option maxRecDepth 100000 in
theorem new_none (c : Sup) (h : Fz w0 w X) : Calls Tryd.prog 7 #[.pointer none, .agg (ccells c).toArray] w fun e w' => e = .returned (.tuple #[.pointer none, .int .i64 1]) ∧ Fz w0 w' X := by
  have HF : Hid (Fz w0 _ X) := (h.cbox c).pop
  clear h
  go_enter Tryd.func7, Tryd.ntmps7
  go_wp2
  go_ret2
  exact ⟨rfl, HF.out⟩
set_option maxHeartbeats 2000000 in
set_option maxRecDepth 100000 in
theorem new_bad (c : Sup) (hc : ¬ MayC c) (h : Fz w0 w X) : Calls Tryd.prog 7 #[qp p, .agg (ccells c).toArray] w fun e w' => e = .returned (.tuple #[.pointer none, .int .i64 3]) ∧ Fz w0 w' X := by
  have h1 := h.cbox c
  obtain ⟨B, hB⟩ : ∃ B, w.heap.size = B := ⟨_, rfl⟩
  rw [hB] at h1
  have HC : Hid (_) := loadC (h1.atb (i := 0) rfl).1
  have H1 : Hid (Fz w0 (w.alloc (.cells (ccells c).toArray 28)) (kb B 28 (ccells c) :: X)) := h1
  clear h h1
  go_enter Tryd.func7, Tryd.ntmps7
  go_wp2_with ((with_reducible refine at_ops ?_); (refine wpList_load_is (by rfl) 28 rfl rfl HC.out ?_); simp only [Act.put, List.setIfInBounds_toArray, List.set_cons_zero, List.set_cons_succ])
  refine (config_any c _).mono ?_
  rintro e w2 ⟨rfl, hb⟩
  have H2 : Hid (Fz w0 w2 (kb B 28 (ccells c) :: X)) := H1.out.later hb
  clear hb H1 HC
  rw [cfg_bad hc]
  go_wp2
  go_ret2
  exact ⟨rfl, Fz.pop H2.out⟩
set_option maxHeartbeats 2000000 in
set_option maxRecDepth 100000 in
theorem new_len (c : Sup) (hc : MayC c) (h : Fz w0 w X) (hj : X[j]? = some (kd p n D)) (hn : (n : Int) ≠ 1 + c.bl + c.lc) : Calls Tryd.prog 7 #[qp p, .agg (ccells c).toArray] w fun e w' => e = .returned (.tuple #[.pointer none, .int .i64 40]) ∧ Fz w0 w' X := by
  have h1 := h.cbox c
  obtain ⟨B, hB⟩ : ∃ B, w.heap.size = B := ⟨_, rfl⟩
  rw [hB] at h1
  have HC : Hid (_) := loadC (h1.atb (i := 0) rfl).1
  have H1 : Hid (Fz w0 (w.alloc (.cells (ccells c).toArray 28)) (kb B 28 (ccells c) :: X)) := h1
  clear h h1
  go_enter Tryd.func7, Tryd.ntmps7
  go_wp2_with ((with_reducible refine at_ops ?_); (refine wpList_load_is (by rfl) 28 rfl rfl HC.out ?_); simp only [Act.put, List.setIfInBounds_toArray, List.set_cons_zero, List.set_cons_succ])
  refine (config_any c _).mono ?_
  rintro e w2 ⟨rfl, hb⟩
  have H2 : Hid (Fz w0 w2 (kb B 28 (ccells c) :: X)) := H1.out.later hb
  clear hb H1 HC
  rw [cfg_ok hc]
  have H3 : Hid (Fz w0 w2.drew (kb B 28 (ccells c) :: X)) := H2.out.later (below_drawn 1)
  clear H2
  go_wp2_with fail
  refine wp_region_noPanic ?_
  refine wp_region_held_drew (S := fun W => Fz w0 W (kb B 28 (ccells c) :: X)) (by kernel_rfl) H3.out (fun hHeld => ?_)
  generalize w2.drew = w3 at *
  refine tk 0 hHeld ?_
  refine tk 2 hHeld ?_
  refine tkl 3 hHeld (fun _ s => cf0 (s.atb (i := 0) rfl).1) ?_
  refine tk 4 hHeld ?_
  refine tk 5 hHeld ?_
  refine tkl 6 hHeld (fun _ s => cf1 (s.atb (i := 0) rfl).1) ?_
  refine tk 7 hHeld ?_
  refine tkr 1 fun Kc hKc => ?_
  go_simp
  obtain ⟨S, hd, -, -⟩ := Fz.atd (i := j + 1) hHeld hj
  refine (len_any hd).mono ?_
  rintro e w' ⟨rfl, hw'⟩
  rw [← hw']
  clear hw' w' hd S
  refine hKc.out _ _ hHeld (fun hHeld => ?_)
  clear hKc Kc
  refine tk 8 hHeld ?_
  clear hHeld
  refine wpAnyH_done (by kernel_rfl) (NoPanic.normal ?_) _
  have HW1 : Hid (IntKind.i64.wrap (1 + c.bl) = 1 + c.bl) := by show _ = _; rw [IntKind.wrap_i64]; omega
  have HW2 : Hid (IntKind.i64.wrap (1 + c.bl + c.lc) = 1 + c.bl + c.lc) := by show _ = _; rw [IntKind.wrap_i64]; omega
  rw [HW1.out, HW2.out]
  have hq : ((n : Int) != 1 + c.bl + c.lc) = true := by simp [hn]
  go_wp2
  go_ret2
  exact ⟨rfl, Fz.pop H3.out⟩
set_option maxHeartbeats 2000000 in
set_option maxRecDepth 100000 in
theorem new_ok (c : Sup) (hc : MayC c) (h : Fz w0 w X) (hj : X[j]? = some (kd p n D)) (hn : (n : Int) = 1 + c.bl + c.lc) : Calls Tryd.prog 7 #[qp p, .agg (ccells c).toArray] w fun e w' => ∃ P, e = .returned (.tuple #[qp P, .int .i64 0]) ∧ Fz w0 w' (kr P (some p) (r0 c) :: X) := by
  have h1 := h.cbox c
  obtain ⟨B, hB⟩ : ∃ B, w.heap.size = B := ⟨_, rfl⟩
  rw [hB] at h1
  have HC : Hid (_) := loadC (h1.atb (i := 0) rfl).1
  have H1 : Hid (Fz w0 (w.alloc (.cells (ccells c).toArray 28)) (kb B 28 (ccells c) :: X)) := h1
  clear h h1
  go_enter Tryd.func7, Tryd.ntmps7
  go_wp2_with ((with_reducible refine at_ops ?_); (refine wpList_load_is (by rfl) 28 rfl rfl HC.out ?_); simp only [Act.put, List.setIfInBounds_toArray, List.set_cons_zero, List.set_cons_succ])
  refine (config_any c _).mono ?_
  rintro e w2 ⟨rfl, hb⟩
  have H2 : Hid (Fz w0 w2 (kb B 28 (ccells c) :: X)) := H1.out.later hb
  clear hb H1 HC
  rw [cfg_ok hc]
  have H3 : Hid (Fz w0 w2.drew (kb B 28 (ccells c) :: X)) := H2.out.later (below_drawn 1)
  clear H2
  go_wp2_with fail
  refine wp_region_noPanic ?_
  refine wp_region_held_drew (S := fun W => Fz w0 W (kb B 28 (ccells c) :: X)) (by kernel_rfl) H3.out (fun hHeld => ?_)
  generalize w2.drew = w3 at *
  refine tk 0 hHeld ?_
  refine tk 2 hHeld ?_
  refine tkl 3 hHeld (fun _ s => cf0 (s.atb (i := 0) rfl).1) ?_
  refine tk 4 hHeld ?_
  refine tk 5 hHeld ?_
  refine tkl 6 hHeld (fun _ s => cf1 (s.atb (i := 0) rfl).1) ?_
  refine tk 7 hHeld ?_
  refine tkr 1 fun Kc hKc => ?_
  go_simp
  obtain ⟨S, hd, -, -⟩ := Fz.atd (i := j + 1) hHeld hj
  refine (len_any hd).mono ?_
  rintro e w' ⟨rfl, hw'⟩
  rw [← hw']
  clear hw' w' hd S
  refine hKc.out _ _ hHeld (fun hHeld => ?_)
  clear hKc Kc
  refine tk 8 hHeld ?_
  clear hHeld
  refine wpAnyH_done (by kernel_rfl) (NoPanic.normal ?_) _
  have HW1 : Hid (IntKind.i64.wrap (1 + c.bl) = 1 + c.bl) := by show _ = _; rw [IntKind.wrap_i64]; omega
  have HW2 : Hid (IntKind.i64.wrap (1 + c.bl + c.lc) = 1 + c.bl + c.lc) := by show _ = _; rw [IntKind.wrap_i64]; omega
  rw [HW1.out, HW2.out]
  have hq : ((n : Int) != 1 + c.bl + c.lc) = false := by simp [hn]
  have HC : Hid (_) := loadC (H3.out.atb (i := 0) rfl).1
  have HBD : Hid (_) := build_redo w3 p c
  have HZ : Hid (Fz w0 (w3.alloc (.cells (pcl (some p) (r0 c) (.slice none 0 0)).toArray 58)) (kr w3.heap.size (some p) (r0 c) :: X)) := (Fz.pop H3.out).newr (below_alloc w3 _) (Nat.le_refl _) rfl (heap_alloc_new w3 _)
  clear H3
  go_wp2_with ((with_reducible refine at_ops ?_); (first | (refine wpList_load_is (by rfl) 28 rfl rfl HC.out ?_) | (refine wpList_build_is (vs := [(0, qp p), (1, .agg (ccells c).toArray), (2, .int .i64 1)]) (by rfl) 58 rfl (by rfl) HBD.out ?_)); simp only [Act.put, List.setIfInBounds_toArray, List.set_cons_zero, List.set_cons_succ])
  go_ret2
  exact ⟨_, rfl, HZ.out⟩
theorem PAt.load {G : Nat → Prop} {v : Value} (h : PAt w G P q x v) : (Instr.loadAt 58 (.pointer (some ⟨P, 0, none⟩))).run Tryd.prog w = .ok (.agg (pcl q x v).toArray) w := run_loadAt_mid w P 0 58 (pcl q x v) _ (LAt.range h.str) Tryd.underlying58 rfl (by rw [size_redo]; rfl)
theorem pcl_one (q : Option Nat) (x : Rc) (a : Option Addr) (m c : Nat) : (pcl q x (.slice a m c)).toArray.all (·.oneCell') = true := by
  cases q <;> simp [pcl, qo, Value.oneCell']
def zcl : List Value := [.pointer none, .int .i64 0, .int .i64 0, .int .i64 0, .int .i64 0, .int .i64 0, .int .i64 0, .int .u64 0, .int .u64 0, .slice none 0 0]
theorem alloc_redo (w : World) : (Instr.alloc 58 true (.tuple #[])).run Tryd.prog w = .ok (.pointer (some ⟨w.heap.size, 0, none⟩)) (w.alloc (.cells zcl.toArray 58)) := by
  have hz : (Tryd.prog.info? 58).bind (·.zero) = some (.agg zcl.toArray) := by kernel_rfl
  simp only [Instr.alloc, Sem.run_bind, Go.Proofs.YtdadpepfpiimgaaDoor.zv 58 _ hz, Result.andThen_ok]
  simp [newVar, newRow, Value.cells]
theorem store_redo (w : World) (q : Option Nat) (x : Rc) (a : Option Addr) (m c : Nat) : (Instr.storeAt 58 (.pointer (some ⟨w.heap.size, 0, none⟩)) (.agg (pcl q x (.slice a m c)).toArray)).run Tryd.prog (w.alloc (.cells zcl.toArray 58)) = .ok () (w.alloc (.cells (pcl q x (.slice a m c)).toArray 58)) := by
  rw [(LAt.new 58 w zcl).store (ds := pcl q x (.slice a m c)) (by rw [size_redo]; rfl) rfl (pcl_one q x a m c), setRow_alloc]
set_option maxHeartbeats 2000000 in
set_option maxRecDepth 100000 in
theorem on_nil (v : Value) (w : World) : Calls Tryd.prog 10 #[.pointer none, v] w fun e w' => e = .returned (.pointer none) ∧ w' = w := by
  go_enter Tryd.func10, Tryd.ntmps10
  go_wp2
  go_ret
  exact ⟨rfl, rfl⟩
set_option maxHeartbeats 2000000 in
set_option maxRecDepth 100000 in
theorem on_at (h : Fz w0 w X) (hi : X[i]? = some (kr P q x)) (q' : Option Nat) : Calls Tryd.prog 10 #[qp P, qo q'] w fun e w' => ∃ R, e = .returned (qp R) ∧ Fz w0 w' (kr R q' x :: X) := by
  obtain ⟨G, v, hp, -⟩ := h.atr hi
  obtain ⟨a, c, e, hm, -⟩ := hp.lf.ex
  subst e
  obtain ⟨E, hE⟩ : ∃ E, w.heap.size = E := ⟨_, rfl⟩
  obtain ⟨w1, hw1⟩ : ∃ W, w.alloc (.cells (pcl q x (.slice a x.left.length c)).toArray 58) = W := ⟨_, rfl⟩
  have HL : Hid (_) := hp.load
  have HA : Hid (_) := alloc_redo w
  have HS : Hid (_) := store_redo w q x a x.left.length c
  rw [hE] at HA HS
  rw [hw1] at HS
  have hn : LAt 58 w1 E (pcl q x (.slice a x.left.length c)) := by rw [← hw1, ← hE]; exact heap_alloc_new w _
  have k0 : w1.cell? ⟨E, 0, none⟩ = some (qo q) := by rw [LAt.cell hn 0]; rfl
  have f0 : w1.frozen? ⟨E, 0, none⟩ = false := frozen_row hn
  have HZ : Hid (Fz w0 (w1.setCell ⟨E, 0, none⟩ (qo q')) (kr E q' x :: X)) := by
    have e1 : w1.setCell ⟨E, 0, none⟩ (qo q') = w.alloc (.cells (pcl q' x (.slice a x.left.length c)).toArray 58) := by
      rw [setCell_eq_setRow w1 E 0 _ 58 (0, 0) _ hn, ← hw1, ← hE, setRow_alloc]; congr 1
    rw [e1]
    refine h.twin hi (below_alloc w _) (by omega) fun G2 v2 hp2 => ⟨.slice a x.left.length c, by rw [← hE]; exact heap_alloc_new w _, ?_⟩
    have ev : v2 = .slice a x.left.length c := by
      have := hp2.c9
      rw [hp.c9] at this
      exact (Option.some.inj this).symm
    have := hp2.lf
    rw [ev] at this
    exact this.keep (Kept.of_below (S := fun _ => False) (below_alloc w _)) (fun _ _ _ e => e) (fun _ a => a)
  clear h hp hm hn hw1 hE
  have HK : Hid (∃ b, qo q = .pointer b) := by cases q <;> exact ⟨_, rfl⟩
  obtain ⟨b, hb⟩ := HK.out
  rw [hb] at k0
  cases q' with
  | none =>
    simp only [qo] at HZ ⊢
    go_enter Tryd.func10, Tryd.ntmps10
    go_wp2_with ((with_reducible refine at_ops ?_); (first | (refine wpList_load_is (by rfl) 58 rfl rfl HL.out ?_) | (refine wpList_alloc_is (by rfl) 58 rfl HA.out ?_) | (refine wpList_store_is (by rfl) 58 rfl rfl rfl HS.out ?_)); simp only [Act.put, List.setIfInBounds_toArray, List.set_cons_zero, List.set_cons_succ])
    go_ret
    exact ⟨_, rfl, HZ.out⟩
  | some p' =>
    simp only [qo] at HZ ⊢
    go_enter Tryd.func10, Tryd.ntmps10
    go_wp2_with ((with_reducible refine at_ops ?_); (first | (refine wpList_load_is (by rfl) 58 rfl rfl HL.out ?_) | (refine wpList_alloc_is (by rfl) 58 rfl HA.out ?_) | (refine wpList_store_is (by rfl) 58 rfl rfl rfl HS.out ?_)); simp only [Act.put, List.setIfInBounds_toArray, List.set_cons_zero, List.set_cons_succ])
    go_ret
    exact ⟨_, rfl, HZ.out⟩
end
end Go.Proofs.YtdadpepfpiimgaaDoor.Q
namespace Go.Proofs.YtdadpepfpiimgaaDoor.Q
open Go.RowKit
section
variable {w0 w : World} {X : List Kd} {i j P p n : Nat} {q : Option Nat} {D : Dd} {x : Rc}
set_option maxHeartbeats 2000000 in
set_option maxRecDepth 100000 in
theorem step_flush_at (_ht : Tab w0) (h : Fz w0 w X) (hi : X[i]? = some (kr P (some p) x)) (hj : X[j]? = some (kd p n D)) (hij : i ≠ j) (_ok : x.Ok n) (hk : D.ws.length ≤ 100000) (hs : x.st = 3) : Calls Tryd.prog 8 #[qp P] w fun e w' => e = .returned (.tuple #[.agg (rowc (stepS n x D).row).toArray, .int .i64 (stepS n x D).err]) ∧ Fz w0 w' ((X.set j (kd p n (stepS n x D).D)).set i (kr P (some p) (stepS n x D).x)) := by
  rw [step_flush hs]
  obtain ⟨w1, hal, hb1, h1⟩ := h.rowbox
  generalize w.heap.size = b0 at h1 hal hb1
  have HAL : Hid (_) := hal
  obtain ⟨G, v, hp, -⟩ := h1.atr (i := i + 1) hi
  have c6 := hp.c6
  rw [hs] at c6
  have H1 : Hid (Fz w0 w1 (kb b0 38 row0 :: X)) := h1
  clear h1 hp hal h hb1
  go_enter Tryd.func8, Tryd.ntmps8
  go_wp2_with ((with_reducible refine at_ops ?_); (refine wpList_alloc_is (by rfl) 38 rfl HAL.out ?_); simp only [Act.put, List.setIfInBounds_toArray, List.set_cons_zero, List.set_cons_succ])
  refine (flush_at (i := i + 1) (j := j + 1) H1.out hi hj (by omega) hk hs).mono ?_
  rintro e w2 ⟨rfl, h2⟩
  obtain ⟨wz, hst, hlz, hfz⟩ := Fz.laid (X := (X.set j (kd p n D.fls)).set i (kr P (some p) { x with st := 4 })) h2 (r := ⟨12, -1, zv, 0, D.ws.length⟩) (zs_len 32)
  have HST : Hid (_) := hst
  have HLz : Hid (_) := hlz
  have HFz : Hid (Fz w0 wz ((X.set j (kd p n D.fls)).set i (kr P (some p) { x with st := 4 }))) := hfz
  clear h2 hst hlz hfz H1 HAL c6
  go_wp2_with ((with_reducible refine at_ops ?_); (refine wpList_store_is (by rfl) 38 rfl rfl rfl HST.out ?_); simp only [Act.put])
  (try simp only [Exit.inBlock, Exit.then])
  exact bodyPost_ret (results_lat Tryd.results8 _ _ _ 38 _ _ (by rfl) HLz.out Tryd.underlying38 rfl (by rw [size_row, rowc_len (zs_len 32)])) rfl ⟨rfl, HFz.out⟩
set_option maxHeartbeats 2000000 in
set_option maxRecDepth 100000 in
theorem step_mark_at (ht : Tab w0) (h : Fz w0 w X) (hi : X[i]? = some (kr P (some p) x)) (hj : X[j]? = some (kd p n D)) (hij : i ≠ j) (ok : x.Ok n) (hk : D.ws.length ≤ 100000) (hs : x.st = 4) : Calls Tryd.prog 8 #[qp P] w fun e w' => e = .returned (.tuple #[.agg (rowc (stepS n x D).row).toArray, .int .i64 (stepS n x D).err]) ∧ Fz w0 w' ((X.set j (kd p n (stepS n x D).D)).set i (kr P (some p) (stepS n x D).x)) := by
  rw [step_mark hs]
  obtain ⟨w1, hal, hb1, h1⟩ := h.rowbox
  generalize w.heap.size = b0 at h1 hal hb1
  have HAL : Hid (_) := hal
  obtain ⟨G, v, hp, -⟩ := h1.atr (i := i + 1) hi
  have c6 := hp.c6
  rw [hs] at c6
  have H1 : Hid (Fz w0 w1 (kb b0 38 row0 :: X)) := h1
  clear h1 hp hal h hb1
  go_enter Tryd.func8, Tryd.ntmps8
  go_wp2_with ((with_reducible refine at_ops ?_); (refine wpList_alloc_is (by rfl) 38 rfl HAL.out ?_); simp only [Act.put, List.setIfInBounds_toArray, List.set_cons_zero, List.set_cons_succ])
  refine (mark_at (i := i + 1) (j := j + 1) ht H1.out hi hj (by omega) ok hk hs).mono ?_
  rintro e w2 ⟨rfl, h2⟩
  obtain ⟨wz, hst, hlz, hfz⟩ := Fz.laid (X := (X.set j (kd p n (D.wr 0 (encS (supN x))))).set i (kr P (some p) { x with st := 5 })) h2 (r := ⟨16, -1, zv, x.en + x.c.lc, 0⟩) (zs_len 32)
  have HST : Hid (_) := hst
  have HLz : Hid (_) := hlz
  have HFz : Hid (Fz w0 wz ((X.set j (kd p n (D.wr 0 (encS (supN x))))).set i (kr P (some p) { x with st := 5 }))) := hfz
  clear h2 hst hlz hfz H1 HAL c6
  go_wp2_with ((with_reducible refine at_ops ?_); (refine wpList_store_is (by rfl) 38 rfl rfl rfl HST.out ?_); simp only [Act.put])
  (try simp only [Exit.inBlock, Exit.then])
  exact bodyPost_ret (results_lat Tryd.results8 _ _ _ 38 _ _ (by rfl) HLz.out Tryd.underlying38 rfl (by rw [size_row, rowc_len (zs_len 32)])) rfl ⟨rfl, HFz.out⟩
set_option maxHeartbeats 2000000 in
set_option maxRecDepth 100000 in
theorem step_end_at (_ht : Tab w0) (h : Fz w0 w X) (hi : X[i]? = some (kr P (some p) x)) (hj : X[j]? = some (kd p n D)) (hij : i ≠ j) (_ok : x.Ok n) (hk : D.ws.length ≤ 100000) (hs : x.st = 5) : Calls Tryd.prog 8 #[qp P] w fun e w' => e = .returned (.tuple #[.agg (rowc (stepS n x D).row).toArray, .int .i64 (stepS n x D).err]) ∧ Fz w0 w' ((X.set j (kd p n (stepS n x D).D)).set i (kr P (some p) (stepS n x D).x)) := by
  rw [step_end hs]
  obtain ⟨w1, hal, hb1, h1⟩ := h.rowbox
  generalize w.heap.size = b0 at h1 hal hb1
  have HAL : Hid (_) := hal
  obtain ⟨G, v, hp, -⟩ := h1.atr (i := i + 1) hi
  have c6 := hp.c6
  rw [hs] at c6
  have H1 : Hid (Fz w0 w1 (kb b0 38 row0 :: X)) := h1
  clear h1 hp hal h hb1
  go_enter Tryd.func8, Tryd.ntmps8
  go_wp2_with ((with_reducible refine at_ops ?_); (refine wpList_alloc_is (by rfl) 38 rfl HAL.out ?_); simp only [Act.put, List.setIfInBounds_toArray, List.set_cons_zero, List.set_cons_succ])
  refine (end_at (i := i + 1) (j := j + 1) H1.out hi hj (by omega) hk hs).mono ?_
  rintro e w2 ⟨rfl, h2⟩
  obtain ⟨wz, hst, hlz, hfz⟩ := Fz.laid (X := (X.set j (kd p n D.fls)).set i (kr P (some p) { x with st := 6 })) h2 (r := ⟨20, -1, zv, x.en + x.c.lc, 0⟩) (zs_len 32)
  have HST : Hid (_) := hst
  have HLz : Hid (_) := hlz
  have HFz : Hid (Fz w0 wz ((X.set j (kd p n D.fls)).set i (kr P (some p) { x with st := 6 }))) := hfz
  clear h2 hst hlz hfz H1 HAL c6
  go_wp2_with ((with_reducible refine at_ops ?_); (refine wpList_store_is (by rfl) 38 rfl rfl rfl HST.out ?_); simp only [Act.put])
  (try simp only [Exit.inBlock, Exit.then])
  exact bodyPost_ret (results_lat Tryd.results8 _ _ _ 38 _ _ (by rfl) HLz.out Tryd.underlying38 rfl (by rw [size_row, rowc_len (zs_len 32)])) rfl ⟨rfl, HFz.out⟩
set_option maxHeartbeats 2000000 in
set_option maxRecDepth 100000 in
theorem step_carry_at (ht : Tab w0) (h : Fz w0 w X) (hi : X[i]? = some (kr P (some p) x)) (hj : X[j]? = some (kd p n D)) (hij : i ≠ j) (ok : x.Ok n) (hk : D.ws.length ≤ 100000) (hs : x.st = 2) {k : Im} {r : List Im} (hl : x.left = k :: r) : Calls Tryd.prog 8 #[qp P] w fun e w' => e = .returned (.tuple #[.agg (rowc (stepS n x D).row).toArray, .int .i64 (stepS n x D).err]) ∧ Fz w0 w' ((X.set j (kd p n (stepS n x D).D)).set i (kr P (some p) (stepS n x D).x)) := by
  rw [step_carry hs hl]
  have HK32 : Hid (k.v.length = 32) := (ok.wf k (by rw [hl]; exact List.mem_cons.2 (.inl rfl))).len
  obtain ⟨w1, hal, hb1, h1⟩ := h.rowbox
  generalize w.heap.size = b0 at h1 hal hb1
  have HAL : Hid (_) := hal
  obtain ⟨G, v, hp, -⟩ := h1.atr (i := i + 1) hi
  have c6 := hp.c6
  rw [hs] at c6
  have H1 : Hid (Fz w0 w1 (kb b0 38 row0 :: X)) := h1
  clear h1 hp hal h hb1
  go_enter Tryd.func8, Tryd.ntmps8
  go_wp2_with ((with_reducible refine at_ops ?_); (refine wpList_alloc_is (by rfl) 38 rfl HAL.out ?_); simp only [Act.put, List.setIfInBounds_toArray, List.set_cons_zero, List.set_cons_succ])
  refine (carry_at (i := i + 1) (j := j + 1) ht H1.out hi hj (by omega) ok hk hs hl).mono ?_
  rintro e w2 ⟨rfl, h2⟩
  obtain ⟨wz, hst, hlz, hfz⟩ := Fz.laid (X := (X.set j (kd p n (D.wr (1 + k.b).toNat (homeS k.b k.v)))).set i (kr P (some p) { x with st := aftS r, left := r })) h2 (r := ⟨15, k.b, k.v, 0, 0⟩) HK32.out
  have HST : Hid (_) := hst
  have HLz : Hid (_) := hlz
  have HFz : Hid (Fz w0 wz ((X.set j (kd p n (D.wr (1 + k.b).toNat (homeS k.b k.v)))).set i (kr P (some p) { x with st := aftS r, left := r }))) := hfz
  clear h2 hst hlz hfz H1 HAL c6
  go_wp2_with ((with_reducible refine at_ops ?_); (refine wpList_store_is (by rfl) 38 rfl rfl rfl HST.out ?_); simp only [Act.put])
  (try simp only [Exit.inBlock, Exit.then])
  exact bodyPost_ret (results_lat Tryd.results8 _ _ _ 38 _ _ (by rfl) HLz.out Tryd.underlying38 rfl (by rw [size_row, rowc_len HK32.out])) rfl ⟨rfl, HFz.out⟩
set_option maxHeartbeats 2000000 in
set_option maxRecDepth 100000 in
theorem step_read_at (ht : Tab w0) (h : Fz w0 w X) (hi : X[i]? = some (kr P (some p) x)) (hj : X[j]? = some (kd p n D)) (_hij : i ≠ j) (ok : x.Ok n) (_hk : D.ws.length ≤ 100000) (hs : x.st = 1) (hz : (rdL x.c n D.rd).2 = 0) (hw : ¬ wrapS x.c (lgS n x.c D)) : Calls Tryd.prog 8 #[qp P] w fun e w' => e = .returned (.tuple #[.agg (rowc (stepS n x D).row).toArray, .int .i64 (stepS n x D).err]) ∧ Fz w0 w' ((X.set j (kd p n (stepS n x D).D)).set i (kr P (some p) (stepS n x D).x)) := by
  rw [step_read hs (by unfold rdE; rw [if_pos hz, if_neg hw])]
  have HS : Hid (X.set j (kd p n D) = X) := Fz.set_same hj
  rw [HS.out]
  obtain ⟨w1, hal, hb1, h1⟩ := h.rowbox
  generalize w.heap.size = b0 at h1 hal hb1
  have HAL : Hid (_) := hal
  obtain ⟨G, v, hp, -⟩ := h1.atr (i := i + 1) hi
  have c6 := hp.c6
  rw [hs] at c6
  have H1 : Hid (Fz w0 w1 (kb b0 38 row0 :: X)) := h1
  clear h1 hp hal h hb1
  go_enter Tryd.func8, Tryd.ntmps8
  go_wp2_with ((with_reducible refine at_ops ?_); (refine wpList_alloc_is (by rfl) 38 rfl HAL.out ?_); simp only [Act.put, List.setIfInBounds_toArray, List.set_cons_zero, List.set_cons_succ])
  refine (read_good (i := i + 1) (j := j + 1) ht H1.out hi hj ok hs hz hw).mono ?_
  rintro e w2 ⟨rfl, h2⟩
  obtain ⟨wz, hst, hlz, hfz⟩ := Fz.laid (X := X.set i (kr P (some p) (readR n x D))) h2 (r := ⟨19, -1, zv, (lgS n x.c D).fin, (lgS n x.c D).txs.length⟩) (zs_len 32)
  have HST : Hid (_) := hst
  have HLz : Hid (_) := hlz
  have HFz : Hid (Fz w0 wz (X.set i (kr P (some p) (readR n x D)))) := hfz
  clear h2 hst hlz hfz H1 HAL c6
  go_wp2_with ((with_reducible refine at_ops ?_); (refine wpList_store_is (by rfl) 38 rfl rfl rfl HST.out ?_); simp only [Act.put])
  (try simp only [Exit.inBlock, Exit.then])
  exact bodyPost_ret (results_lat Tryd.results8 _ _ _ 38 _ _ (by rfl) HLz.out Tryd.underlying38 rfl (by rw [size_row, rowc_len (zs_len 32)])) rfl ⟨rfl, HFz.out⟩
set_option maxHeartbeats 2000000 in
set_option maxRecDepth 100000 in
theorem step_bad_at (ht : Tab w0) (h : Fz w0 w X) (hi : X[i]? = some (kr P (some p) x)) (hj : X[j]? = some (kd p n D)) (_hij : i ≠ j) (_ok : x.Ok n) (_hk : D.ws.length ≤ 100000) (hs : x.st = 1) (hz : (rdL x.c n D.rd).2 ≠ 0) : Calls Tryd.prog 8 #[qp P] w fun e w' => e = .returned (.tuple #[.agg (rowc (stepS n x D).row).toArray, .int .i64 (stepS n x D).err]) ∧ Fz w0 w' ((X.set j (kd p n (stepS n x D).D)).set i (kr P (some p) (stepS n x D).x)) := by
  rw [step_bad hs (by unfold rdE; rw [if_neg hz]; exact hz), show rdE n x.c D = (rdL x.c n D.rd).2 from if_neg hz]
  have HS : Hid ((X.set j (kd p n D)).set i (kr P (some p) x) = X) := by show _ = _; rw [Fz.set_same hj, Fz.set_same hi]
  rw [HS.out]
  obtain ⟨w1, hal, hb1, h1⟩ := h.rowbox
  generalize w.heap.size = b0 at h1 hal hb1
  have HAL : Hid (_) := hal
  obtain ⟨G, v, hp, -⟩ := h1.atr (i := i + 1) hi
  have c6 := hp.c6
  rw [hs] at c6
  have H1 : Hid (Fz w0 w1 (kb b0 38 row0 :: X)) := h1
  clear h1 hp hal h hb1
  go_enter Tryd.func8, Tryd.ntmps8
  go_wp2_with ((with_reducible refine at_ops ?_); (refine wpList_alloc_is (by rfl) 38 rfl HAL.out ?_); simp only [Act.put, List.setIfInBounds_toArray, List.set_cons_zero, List.set_cons_succ])
  refine (read_bad (i := i + 1) (j := j + 1) ht H1.out hi hj hz).mono ?_
  rintro e w2 ⟨rfl, h2⟩
  obtain ⟨wz, hst, hlz, hfz⟩ := Fz.laid (X := X) h2 (r := ⟨0, 0, zv, 0, 0⟩) (zs_len 32)
  have HST : Hid (_) := hst
  have HLz : Hid (_) := hlz
  have HFz : Hid (Fz w0 wz (X)) := hfz
  clear h2 hst hlz hfz H1 HAL c6
  go_wp2_with ((with_reducible refine at_ops ?_); (refine wpList_store_is (by rfl) 38 rfl rfl rfl HST.out ?_); simp only [Act.put])
  (try simp only [Exit.inBlock, Exit.then])
  exact bodyPost_ret (results_lat Tryd.results8 _ _ _ 38 _ _ (by rfl) HLz.out Tryd.underlying38 rfl (by rw [size_row, rowc_len (zs_len 32)])) rfl ⟨rfl, HFz.out⟩
set_option maxHeartbeats 2000000 in
set_option maxRecDepth 100000 in
theorem step_wrap_at (ht : Tab w0) (h : Fz w0 w X) (hi : X[i]? = some (kr P (some p) x)) (hj : X[j]? = some (kd p n D)) (_hij : i ≠ j) (ok : x.Ok n) (_hk : D.ws.length ≤ 100000) (hs : x.st = 1) (hz : (rdL x.c n D.rd).2 = 0) (hw : wrapS x.c (lgS n x.c D)) : Calls Tryd.prog 8 #[qp P] w fun e w' => e = .returned (.tuple #[.agg (rowc (stepS n x D).row).toArray, .int .i64 (stepS n x D).err]) ∧ Fz w0 w' ((X.set j (kd p n (stepS n x D).D)).set i (kr P (some p) (stepS n x D).x)) := by
  have hE : rdE n x.c D = 31 := by unfold rdE; rw [if_pos hz, if_pos hw]
  rw [step_bad hs (by rw [hE]; decide), hE]
  have HS : Hid ((X.set j (kd p n D)).set i (kr P (some p) x) = X) := by show _ = _; rw [Fz.set_same hj, Fz.set_same hi]
  rw [HS.out]
  obtain ⟨w1, hal, hb1, h1⟩ := h.rowbox
  generalize w.heap.size = b0 at h1 hal hb1
  have HAL : Hid (_) := hal
  obtain ⟨G, v, hp, -⟩ := h1.atr (i := i + 1) hi
  have c6 := hp.c6
  rw [hs] at c6
  have H1 : Hid (Fz w0 w1 (kb b0 38 row0 :: X)) := h1
  clear h1 hp hal h hb1
  go_enter Tryd.func8, Tryd.ntmps8
  go_wp2_with ((with_reducible refine at_ops ?_); (refine wpList_alloc_is (by rfl) 38 rfl HAL.out ?_); simp only [Act.put, List.setIfInBounds_toArray, List.set_cons_zero, List.set_cons_succ])
  refine (read_wrap (i := i + 1) (j := j + 1) ht H1.out hi hj ok hz hw).mono ?_
  rintro e w2 ⟨rfl, h2⟩
  obtain ⟨wz, hst, hlz, hfz⟩ := Fz.laid (X := X) h2 (r := ⟨0, 0, zv, 0, 0⟩) (zs_len 32)
  have HST : Hid (_) := hst
  have HLz : Hid (_) := hlz
  have HFz : Hid (Fz w0 wz (X)) := hfz
  clear h2 hst hlz hfz H1 HAL c6
  go_wp2_with ((with_reducible refine at_ops ?_); (refine wpList_store_is (by rfl) 38 rfl rfl rfl HST.out ?_); simp only [Act.put])
  (try simp only [Exit.inBlock, Exit.then])
  exact bodyPost_ret (results_lat Tryd.results8 _ _ _ 38 _ _ (by rfl) HLz.out Tryd.underlying38 rfl (by rw [size_row, rowc_len (zs_len 32)])) rfl ⟨rfl, HFz.out⟩
set_option maxHeartbeats 2000000 in
set_option maxRecDepth 100000 in
theorem step_idle (h : Fz w0 w X) (hi : X[i]? = some (kr P q x)) (hs : x.st = 6) : Calls Tryd.prog 8 #[qp P] w fun e w' => e = .returned (.tuple #[.agg row0.toArray, .int .i64 190]) ∧ Fz w0 w' X := by
  obtain ⟨w1, hal, hb1, h1⟩ := h.rowbox
  generalize w.heap.size = b0 at h1 hal hb1
  have HAL : Hid (_) := hal
  obtain ⟨G, v, hp, -⟩ := h1.atr (i := i + 1) hi
  have c6 := hp.c6
  rw [hs] at c6
  have HBD : Hid (_) := build_row0 w1
  obtain ⟨wz, hst, hlz, hfz⟩ := Fz.laid (X := X) h1 (r := ⟨0, 0, zv, 0, 0⟩) (zs_len 32)
  have HST : Hid (_) := hst
  have HLz : Hid (_) := hlz
  have HFz : Hid (Fz w0 wz X) := hfz
  clear h1 hp hal h hb1 hst hlz hfz
  go_enter Tryd.func8, Tryd.ntmps8
  go_wp2_with ((with_reducible refine at_ops ?_); (first | (refine wpList_alloc_is (by rfl) 38 rfl HAL.out ?_) | (refine wpList_build_is (vs := []) (by rfl) 38 rfl (by rfl) HBD.out ?_) | (refine wpList_store_is (by rfl) 38 rfl rfl rfl HST.out ?_)); simp only [Act.put, List.setIfInBounds_toArray, List.set_cons_zero, List.set_cons_succ])
  (try simp only [Exit.inBlock, Exit.then])
  exact bodyPost_ret (results_lat Tryd.results8 _ _ _ 38 _ _ (by rfl) HLz.out Tryd.underlying38 rfl (by rw [size_row, rowc_len (zs_len 32)])) rfl ⟨rfl, HFz.out⟩
set_option maxHeartbeats 2000000 in
set_option maxRecDepth 100000 in
theorem step_nil (h : Fz w0 w X) : Calls Tryd.prog 8 #[.pointer none] w fun e w' => e = .returned (.tuple #[.agg row0.toArray, .int .i64 1]) ∧ Fz w0 w' X := by
  obtain ⟨w1, hal, hb1, h1⟩ := h.rowbox
  generalize w.heap.size = b0 at h1 hal hb1
  have HAL : Hid (_) := hal
  have HBD : Hid (_) := build_row0 w1
  obtain ⟨wz, hst, hlz, hfz⟩ := Fz.laid (X := X) h1 (r := ⟨0, 0, zv, 0, 0⟩) (zs_len 32)
  have HST : Hid (_) := hst
  have HLz : Hid (_) := hlz
  have HFz : Hid (Fz w0 wz X) := hfz
  clear h1 hal h hb1 hst hlz hfz
  go_enter Tryd.func8, Tryd.ntmps8
  go_wp2_with ((with_reducible refine at_ops ?_); (first | (refine wpList_alloc_is (by rfl) 38 rfl HAL.out ?_) | (refine wpList_build_is (vs := []) (by rfl) 38 rfl (by rfl) HBD.out ?_) | (refine wpList_store_is (by rfl) 38 rfl rfl rfl HST.out ?_)); simp only [Act.put, List.setIfInBounds_toArray, List.set_cons_zero, List.set_cons_succ])
  (try simp only [Exit.inBlock, Exit.then])
  exact bodyPost_ret (results_lat Tryd.results8 _ _ _ 38 _ _ (by rfl) HLz.out Tryd.underlying38 rfl (by rw [size_row, rowc_len (zs_len 32)])) rfl ⟨rfl, HFz.out⟩
theorem step_at (ht : Tab w0) (h : Fz w0 w X) (hi : X[i]? = some (kr P (some p) x)) (hj : X[j]? = some (kd p n D)) (hij : i ≠ j) (ok : x.Ok n) (hk : D.ws.length ≤ 100000) : Calls Tryd.prog 8 #[qp P] w fun e w' => e = .returned (.tuple #[.agg (rowc (stepS n x D).row).toArray, .int .i64 (stepS n x D).err]) ∧ Fz w0 w' ((X.set j (kd p n (stepS n x D).D)).set i (kr P (some p) (stepS n x D).x)) := by
  have s0 := ok.s0; have s1 := ok.s1
  rcases (by omega : x.st = 1 ∨ x.st = 2 ∨ x.st = 3 ∨ x.st = 4 ∨ x.st = 5 ∨ x.st = 6) with e | e | e | e | e | e
  · by_cases hz : (rdL x.c n D.rd).2 = 0
    · by_cases hw : wrapS x.c (lgS n x.c D)
      · exact step_wrap_at ht h hi hj hij ok hk e hz hw
      · exact step_read_at ht h hi hj hij ok hk e hz hw
    · exact step_bad_at ht h hi hj hij ok hk e hz
  · obtain ⟨k, r, hl⟩ : ∃ k r, x.left = k :: r := by
      cases c : x.left with
      | nil => exact absurd c (ok.car e)
      | cons k r => exact ⟨k, r, rfl⟩
    exact step_carry_at ht h hi hj hij ok hk e hl
  · exact step_flush_at ht h hi hj hij ok hk e
  · exact step_mark_at ht h hi hj hij ok hk e
  · exact step_end_at ht h hi hj hij ok hk e
  · rw [step_over e, Fz.set_same hj, Fz.set_same hi]
    exact step_idle h hi e
end
end Go.Proofs.YtdadpepfpiimgaaDoor.Q
namespace Go.Proofs.YtdadpepfpiimgaaDoor.Q
open Go.RowKit
section
variable {w0 w : World} {X : List Kd} {i j P p n : Nat} {q : Option Nat} {D : Dd} {x : Rc}
set_option maxHeartbeats 2000000 in
set_option maxRecDepth 100000 in
theorem flush_none (h : Fz w0 w X) (hi : X[i]? = some (kr P none x)) : Calls Tryd.prog 21 #[qp P] w fun e w' => e = .returned (.tuple #[.agg row0.toArray, .int .i64 1]) ∧ Fz w0 w' X := by
  obtain ⟨w1, hal, hb1, h1⟩ := h.rowbox
  generalize w.heap.size = b0 at h1 hal hb1
  have HAL : Hid (_) := hal
  obtain ⟨G, v, hp, -⟩ := h1.atr (i := i + 1) hi
  have c0 := hp.n0
  have H1 : Hid (Fz w0 w1 (kb b0 38 row0 :: X)) := h1
  clear h1 hp hal h hb1
  go_enter Tryd.func21, Tryd.ntmps21
  go_wp2_with ((with_reducible refine at_ops ?_); (refine wpList_alloc_is (by rfl) 38 rfl HAL.out ?_); simp only [Act.put, List.setIfInBounds_toArray, List.set_cons_zero, List.set_cons_succ])
  refine (flush_nil _).mono ?_
  rintro e w' ⟨rfl, hw'⟩
  rw [← hw']
  clear hw' w'
  have HBD : Hid (_) := build_row0 w1
  obtain ⟨wz, hst, hlz, hfz⟩ := Fz.laid (X := X) H1.out (r := ⟨0, 0, zv, 0, 0⟩) (zs_len 32)
  have HST : Hid (_) := hst
  have HLz : Hid (_) := hlz
  have HFz : Hid (Fz w0 wz X) := hfz
  clear hst hlz hfz
  go_wp2_with ((with_reducible refine at_ops ?_); (first | (refine wpList_build_is (vs := []) (by rfl) 38 rfl (by rfl) HBD.out ?_) | (refine wpList_store_is (by rfl) 38 rfl rfl rfl HST.out ?_)); simp only [Act.put, List.setIfInBounds_toArray, List.set_cons_zero, List.set_cons_succ])
  (try simp only [Exit.inBlock, Exit.then])
  exact bodyPost_ret (results_lat Tryd.results21 _ _ _ 38 _ _ (by rfl) HLz.out Tryd.underlying38 rfl (by rw [size_row, rowc_len (zs_len 32)])) rfl ⟨rfl, HFz.out⟩
set_option maxHeartbeats 2000000 in
set_option maxRecDepth 100000 in
theorem end_none (h : Fz w0 w X) (hi : X[i]? = some (kr P none x)) : Calls Tryd.prog 23 #[qp P] w fun e w' => e = .returned (.tuple #[.agg row0.toArray, .int .i64 1]) ∧ Fz w0 w' X := by
  obtain ⟨w1, hal, hb1, h1⟩ := h.rowbox
  generalize w.heap.size = b0 at h1 hal hb1
  have HAL : Hid (_) := hal
  obtain ⟨G, v, hp, -⟩ := h1.atr (i := i + 1) hi
  have c0 := hp.n0
  have H1 : Hid (Fz w0 w1 (kb b0 38 row0 :: X)) := h1
  clear h1 hp hal h hb1
  go_enter Tryd.func23, Tryd.ntmps23
  go_wp2_with ((with_reducible refine at_ops ?_); (refine wpList_alloc_is (by rfl) 38 rfl HAL.out ?_); simp only [Act.put, List.setIfInBounds_toArray, List.set_cons_zero, List.set_cons_succ])
  refine (flush_nil _).mono ?_
  rintro e w' ⟨rfl, hw'⟩
  rw [← hw']
  clear hw' w'
  have HBD : Hid (_) := build_row0 w1
  obtain ⟨wz, hst, hlz, hfz⟩ := Fz.laid (X := X) H1.out (r := ⟨0, 0, zv, 0, 0⟩) (zs_len 32)
  have HST : Hid (_) := hst
  have HLz : Hid (_) := hlz
  have HFz : Hid (Fz w0 wz X) := hfz
  clear hst hlz hfz
  go_wp2_with ((with_reducible refine at_ops ?_); (first | (refine wpList_build_is (vs := []) (by rfl) 38 rfl (by rfl) HBD.out ?_) | (refine wpList_store_is (by rfl) 38 rfl rfl rfl HST.out ?_)); simp only [Act.put, List.setIfInBounds_toArray, List.set_cons_zero, List.set_cons_succ])
  (try simp only [Exit.inBlock, Exit.then])
  exact bodyPost_ret (results_lat Tryd.results23 _ _ _ 38 _ _ (by rfl) HLz.out Tryd.underlying38 rfl (by rw [size_row, rowc_len (zs_len 32)])) rfl ⟨rfl, HFz.out⟩
set_option maxHeartbeats 2000000 in
set_option maxRecDepth 100000 in
theorem mark_none (ht : Tab w0) (h : Fz w0 w X) (hi : X[i]? = some (kr P none x)) (ok : x.Ok n) (hs : x.st = 4) : Calls Tryd.prog 22 #[qp P] w fun e w' => e = .returned (.tuple #[.agg row0.toArray, .int .i64 1]) ∧ Fz w0 w' X := by
  have HN1 : Hid (x.st ≠ 1) := by show x.st ≠ 1; omega
  have HCK : Hid (chk (supN x) = 0) := by show chk (supN x) = 0; unfold chk; rw [if_pos ok.sup.1, if_pos ok.sup.2]
  obtain ⟨w1, hal, hb1, h1⟩ := h.rowbox
  generalize w.heap.size = b0 at h1 hal hb1
  have HAL : Hid (_) := hal
  have H1 : Hid (Fz w0 w1.drew (kb b0 38 row0 :: X)) := h1.later (below_drawn 1)
  clear h hal h1 hb1
  go_enter Tryd.func22, Tryd.ntmps22
  go_wp2_with ((with_reducible refine at_ops ?_); (refine wpList_alloc_is (by rfl) 38 rfl HAL.out ?_); simp only [Act.put, List.setIfInBounds_toArray, List.set_cons_zero, List.set_cons_succ])
  refine wp_region_noPanic ?_
  refine wp_region_held_drew (S := fun W => Pv P none x W) (by kernel_rfl) (H1.out.pv (i := i + 1) hi) (fun hHeld => ?_)
  generalize w1.drew = w2 at *
  refine tk 0 hHeld ?_
  refine tk 1 hHeld ?_
  refine tk 2 hHeld ?_
  refine tkm 3 hHeld (fun _ s => s.loadC) ?_
  refine tk 4 hHeld ?_
  refine tk 5 hHeld ?_
  refine tk 6 hHeld ?_
  refine tkl 7 hHeld (fun _ s => s.t7 HN1.out) ?_
  refine tk 8 hHeld ?_
  refine tk 9 hHeld ?_
  refine tk 10 hHeld ?_
  refine tkl 11 hHeld (fun _ s => s.t8 HN1.out) ?_
  refine tkb 12 [(0, .agg (ccells x.c).toArray), (1, .int .u64 (x.en + x.c.lc)), (2, .int .u64 (x.li + 1))] hHeld (fun W => build_supN W x) ?_
  refine tkr 13 fun Kc hKc => ?_
  go_simp
  refine (encode_any (supN x) ok.supwf _ (H1.out.tab ht)).mono ?_
  rintro e w3 ⟨a, m, c, rfl, hm, hmade⟩
  have H3 : Hid (Fz w0 w3 (kb b0 38 row0 :: X)) := H1.out.later hmade.below
  rw [HCK.out]
  clear hmade H1 hm
  go_simp
  refine hKc.out _ _ (H3.out.pv (i := i + 1) hi) fun hHeld => ?_
  clear hKc Kc
  refine tk 14 hHeld ?_
  refine tk 15 hHeld ?_
  refine tk 16 hHeld ?_
  refine tk 17 hHeld ?_
  refine tk 18 hHeld ?_
  clear hHeld
  refine wpAnyH_done (by kernel_rfl) (NoPanic.normal ?_) _
  have c0 := (H3.out.pv (i := i + 1) hi).n0
  go_wp2_with fail
  refine (write_nil 0 _ _).mono ?_
  rintro e w' ⟨rfl, hw'⟩
  rw [← hw']
  clear hw' w'
  have HBD : Hid (_) := build_row0 w3
  obtain ⟨wz, hst, hlz, hfz⟩ := Fz.laid (X := X) H3.out (r := ⟨0, 0, zv, 0, 0⟩) (zs_len 32)
  have HST : Hid (_) := hst
  have HLz : Hid (_) := hlz
  have HFz : Hid (Fz w0 wz X) := hfz
  clear hst hlz hfz
  go_wp2_with ((with_reducible refine at_ops ?_); (first | (refine wpList_build_is (vs := []) (by rfl) 38 rfl (by rfl) HBD.out ?_) | (refine wpList_store_is (by rfl) 38 rfl rfl rfl HST.out ?_)); simp only [Act.put, List.setIfInBounds_toArray, List.set_cons_zero, List.set_cons_succ])
  (try simp only [Exit.inBlock, Exit.then])
  exact bodyPost_ret (results_lat Tryd.results22 _ _ _ 38 _ _ (by rfl) HLz.out Tryd.underlying38 rfl (by rw [size_row, rowc_len (zs_len 32)])) rfl ⟨rfl, HFz.out⟩
set_option maxHeartbeats 2000000 in
set_option maxRecDepth 100000 in
theorem carry_none (h : Fz w0 w X) (hi : X[i]? = some (kr P none x)) (ok : x.Ok n) (hs : x.st = 2) {k : Im} {r : List Im} (hl : x.left = k :: r) : Calls Tryd.prog 20 #[qp P] w fun e w' => e = .returned (.tuple #[.agg row0.toArray, .int .i64 1]) ∧ Fz w0 w' X := by
  have HK32 : Hid (k.v.length = 32) := (ok.wf k (by rw [hl]; exact List.mem_cons.2 (.inl rfl))).len
  obtain ⟨w1, hal, hb1, h1⟩ := h.rowbox
  generalize w.heap.size = b0 at h1 hal hb1
  have HAL : Hid (_) := hal
  obtain ⟨b, o, c, c9, hm, hc1, hc2, -⟩ := Fz.carried (i := i + 1) h1 hi hl hs
  have HLD : Hid (_) := hm.load (k := 0) rfl
  rw [Nat.zero_mul, Nat.add_zero] at HLD
  have hbm : b < w1.heap.size := mIn_blt hm (by omega) rfl
  obtain ⟨E, hE⟩ : ∃ E, w1.heap.size = E := ⟨_, rfl⟩
  obtain ⟨w2, hw2⟩ : ∃ W, w1.alloc (.cells (icells k).toArray 65) = W := ⟨_, rfl⟩
  have HAE : Hid (_) := allocI w1
  have HSE : Hid (_) := store_newI w1 k HK32.out
  rw [hw2, hE] at HSE
  rw [hE] at HAE
  have h2 : Fz w0 w2 (kb E 65 (icells k) :: kb b0 38 row0 :: X) := by rw [← hw2, ← hE]; exact h1.newa (icells k) 65
  have H4 : Hid (Fz w0 w2.drew (kb E 65 (icells k) :: kb b0 38 row0 :: X)) := h2.later (below_drawn 1)
  clear h hal h1 hm h2 hw2 hE hb1
  go_enter Tryd.func20, Tryd.ntmps20
  go_wp2_with ((with_reducible refine at_ops ?_); (first | (refine wpList_alloc_is (by rfl) 38 rfl HAL.out ?_) | (refine wpList_load_is (by rfl) 65 rfl rfl HLD.out ?_) | (refine wpList_alloc_is (by rfl) 65 rfl HAE.out ?_) | (refine wpList_store_is (by rfl) 65 rfl rfl rfl HSE.out ?_)); simp only [Act.put, List.setIfInBounds_toArray, List.set_cons_zero, List.set_cons_succ])
  clear HAL HLD HAE HSE c9
  refine wp_region_noPanic ?_
  refine wp_region_held_drew (S := fun W => Pv P none x W ∧ LAt 65 W E (icells k)) (by kernel_rfl) ⟨H4.out.pv (i := i + 2) hi, (H4.out.atb (i := 0) rfl).1⟩ (fun hHeld => ?_)
  generalize w2.drew = w4 at *
  refine tk 0 hHeld ?_
  refine tk 1 hHeld ?_
  refine tk 2 hHeld ?_
  refine tkl 3 hHeld (fun _ s => s.1.n0) ?_
  refine tk 4 hHeld ?_
  refine tk 5 hHeld ?_
  refine tk 6 hHeld ?_
  refine tkm 7 hHeld (fun _ s => s.1.loadC) ?_
  refine tk 8 hHeld ?_
  refine tkl 9 hHeld (fun _ s => img0 s.2) ?_
  refine tk 10 hHeld ?_
  refine tkm 11 hHeld (fun _ s => LAt.loadIv s.2 HK32.out) ?_
  refine tkr 12 fun Kc hKc => ?_
  go_simp
  refine (hsave_nil x.c k.b k.v _).mono ?_
  rintro e w5 ⟨rfl, hb⟩
  have H5 : Hid (Fz w0 w5 (kb E 65 (icells k) :: kb b0 38 row0 :: X)) := H4.out.later hb
  clear hb H4
  go_simp
  refine hKc.out _ _ ⟨H5.out.pv (i := i + 2) hi, (H5.out.atb (i := 0) rfl).1⟩ fun hHeld => ?_
  clear hKc Kc
  refine tk 13 hHeld ?_
  clear hHeld
  refine wpAnyH_done (by kernel_rfl) (NoPanic.normal ?_) _
  have HBD : Hid (_) := build_row0 w5
  obtain ⟨wz, hst, hlz, hfz⟩ := Fz.laid (X := X) (Fz.pop H5.out) (r := ⟨0, 0, zv, 0, 0⟩) (zs_len 32)
  have HST : Hid (_) := hst
  have HLz : Hid (_) := hlz
  have HFz : Hid (Fz w0 wz X) := hfz
  clear hst hlz hfz
  go_wp2_with ((with_reducible refine at_ops ?_); (first | (refine wpList_build_is (vs := []) (by rfl) 38 rfl (by rfl) HBD.out ?_) | (refine wpList_store_is (by rfl) 38 rfl rfl rfl HST.out ?_)); simp only [Act.put, List.setIfInBounds_toArray, List.set_cons_zero, List.set_cons_succ])
  (try simp only [Exit.inBlock, Exit.then])
  exact bodyPost_ret (results_lat Tryd.results20 _ _ _ 38 _ _ (by rfl) HLz.out Tryd.underlying38 rfl (by rw [size_row, rowc_len (zs_len 32)])) rfl ⟨rfl, HFz.out⟩
set_option maxHeartbeats 2000000 in
set_option maxRecDepth 100000 in
theorem read_none (h : Fz w0 w X) (hi : X[i]? = some (kr P none x)) : Calls Tryd.prog 24 #[qp P] w fun e w' => e = .returned (.tuple #[.agg row0.toArray, .int .i64 1]) ∧ Fz w0 w' X := by
  obtain ⟨w1, hal, hb1, h1⟩ := h.rowbox
  generalize w.heap.size = b0 at h1 hal hb1
  have HAL : Hid (_) := hal
  have H2 : Hid (Fz w0 w1.drew (kb b0 38 row0 :: X)) := h1.later (below_drawn 1)
  clear h hal h1 hb1
  go_enter Tryd.func24, Tryd.ntmps24
  go_wp2_with ((with_reducible refine at_ops ?_); (refine wpList_alloc_is (by rfl) 38 rfl HAL.out ?_); simp only [Act.put, List.setIfInBounds_toArray, List.set_cons_zero, List.set_cons_succ])
  refine wp_region_noPanic ?_
  refine wp_region_held_drew (S := fun W => Pv P none x W) (by kernel_rfl) (H2.out.pv (i := i + 1) hi) (fun hHeld => ?_)
  generalize w1.drew = w2 at *
  refine tk 0 hHeld ?_
  refine tk 1 hHeld ?_
  refine tk 2 hHeld ?_
  refine tkl 3 hHeld (fun _ s => s.n0) ?_
  refine tk 4 hHeld ?_
  refine tk 5 hHeld ?_
  refine tk 6 hHeld ?_
  refine tkm 7 hHeld (fun _ s => s.loadC) ?_
  refine wpAnyH_ready (rs := [8, 12]) (by kernel_rfl) (by simp) ?_
  refine AllReadyH.cons (by simp; rfl) (fun Kc hKc => ?_) (AllReadyH.cons (by simp; rfl) (fun Kc hKc => ?_) AllReadyH.nil)
  · go_simp
    refine (read_nil10 x.c _).mono ?_
    rintro e wx1 ⟨rfl, hb⟩
    have HD1 : Hid (Fz w0 wx1 (kb b0 38 row0 :: X)) := H2.out.later hb
    clear hb H2
    go_simp
    refine hKc.out _ _ (HD1.out.pv (i := i + 1) hi) (fun hHeld => ?_)
    clear hKc Kc
    refine tk 9 hHeld ?_
    refine tk 10 hHeld ?_
    refine tk 11 hHeld ?_
    refine tkr 12 fun Kc hKc => ?_
    obtain ⟨RN, hRN⟩ : ∃ B, wx1.heap.size = B := ⟨_, rfl⟩
    have hdv := HD1.out.newa (gcells 0 0 0 (.slice none 0 0)) 89
    have hal := allocLg wx1
    rw [hRN] at hdv hal
    refine step_alloc_is (by rfl) 89 rfl hal ?_
    simp only [Act.put, List.setIfInBounds_toArray, List.set_cons_zero, List.set_cons_succ]
    have HD2 : Hid (Fz w0 (wx1.alloc (.cells (gcells 0 0 0 (.slice none 0 0)).toArray 89)) (kb RN 89 (gcells 0 0 0 (.slice none 0 0)) :: kb b0 38 row0 :: X)) := hdv
    clear hdv hal hRN HD1
    generalize wx1.alloc (.cells (gcells 0 0 0 (.slice none 0 0)).toArray 89) = wx2 at *
    refine hKc.out _ _ (HD2.out.pv (i := i + 2) hi) (fun hHeld => ?_)
    clear hKc Kc
    refine tkr 13 fun Kc hKc => ?_
    obtain ⟨hla, -, -, hlb⟩ := HD2.out.atb (i := 0) rfl
    have hst := LAt.store hla (ds := gcells 0 0 0 (.slice none 0 0)) (by rw [sizeLg]; rfl) rfl (by simp [gcells, Value.oneCell'])
    have hds := hlb (gcells 0 0 0 (.slice none 0 0))
    refine step_store_is (by rfl) 89 rfl rfl rfl hst ?_
    simp only [Act.put]
    have HD3 : Hid (Fz w0 (wx2.setRow RN (gcells 0 0 0 (.slice none 0 0)).toArray) (kb RN 89 (gcells 0 0 0 (.slice none 0 0)) :: kb b0 38 row0 :: X)) := hds
    clear hds hst hla hlb HD2
    generalize wx2.setRow RN (gcells 0 0 0 (.slice none 0 0)).toArray = wx3 at *
    refine hKc.out _ _ (HD3.out.pv (i := i + 2) hi) (fun hHeld => ?_)
    clear hKc Kc
    refine tk 14 hHeld ?_
    clear hHeld
    refine wpAnyH_done (by kernel_rfl) (NoPanic.normal ?_) _
    have H9 : Hid (Fz w0 wx3 (kb b0 38 row0 :: X)) := Fz.pop HD3.out
    clear HD3
    generalize wx3 = w9 at *
    have HBD : Hid (_) := build_row0 w9
    obtain ⟨wz, hst, hlz, hfz⟩ := Fz.laid (X := X) H9.out (r := ⟨0, 0, zv, 0, 0⟩) (zs_len 32)
    have HST : Hid (_) := hst
    have HLz : Hid (_) := hlz
    have HFz : Hid (Fz w0 wz X) := hfz
    clear hst hlz hfz
    go_wp2_with ((with_reducible refine at_ops ?_); (first | (refine wpList_build_is (vs := []) (by rfl) 38 rfl (by rfl) HBD.out ?_) | (refine wpList_store_is (by rfl) 38 rfl rfl rfl HST.out ?_)); simp only [Act.put, List.setIfInBounds_toArray, List.set_cons_zero, List.set_cons_succ])
    (try simp only [Exit.inBlock, Exit.then])
    exact bodyPost_ret (results_lat Tryd.results24 _ _ _ 38 _ _ (by rfl) HLz.out Tryd.underlying38 rfl (by rw [size_row, rowc_len (zs_len 32)])) rfl ⟨rfl, HFz.out⟩
  · obtain ⟨RN, hRN⟩ : ∃ B, w2.heap.size = B := ⟨_, rfl⟩
    have hdv := H2.out.newa (gcells 0 0 0 (.slice none 0 0)) 89
    have hal := allocLg w2
    rw [hRN] at hdv hal
    refine step_alloc_is (by rfl) 89 rfl hal ?_
    simp only [Act.put, List.setIfInBounds_toArray, List.set_cons_zero, List.set_cons_succ]
    have HD1 : Hid (Fz w0 (w2.alloc (.cells (gcells 0 0 0 (.slice none 0 0)).toArray 89)) (kb RN 89 (gcells 0 0 0 (.slice none 0 0)) :: kb b0 38 row0 :: X)) := hdv
    clear hdv hal hRN H2
    generalize w2.alloc (.cells (gcells 0 0 0 (.slice none 0 0)).toArray 89) = wx1 at *
    refine hKc.out _ _ (HD1.out.pv (i := i + 2) hi) (fun hHeld => ?_)
    clear hKc Kc
    refine tkr 8 fun Kc hKc => ?_
    go_simp
    refine (read_nil10 x.c _).mono ?_
    rintro e wx2 ⟨rfl, hb⟩
    have HD2 : Hid (Fz w0 wx2 (kb RN 89 (gcells 0 0 0 (.slice none 0 0)) :: kb b0 38 row0 :: X)) := HD1.out.later hb
    clear hb HD1
    go_simp
    refine hKc.out _ _ (HD2.out.pv (i := i + 2) hi) (fun hHeld => ?_)
    clear hKc Kc
    refine tk 9 hHeld ?_
    refine tk 10 hHeld ?_
    refine tk 11 hHeld ?_
    refine tkr 13 fun Kc hKc => ?_
    obtain ⟨hla, -, -, hlb⟩ := HD2.out.atb (i := 0) rfl
    have hst := LAt.store hla (ds := gcells 0 0 0 (.slice none 0 0)) (by rw [sizeLg]; rfl) rfl (by simp [gcells, Value.oneCell'])
    have hds := hlb (gcells 0 0 0 (.slice none 0 0))
    refine step_store_is (by rfl) 89 rfl rfl rfl hst ?_
    simp only [Act.put]
    have HD3 : Hid (Fz w0 (wx2.setRow RN (gcells 0 0 0 (.slice none 0 0)).toArray) (kb RN 89 (gcells 0 0 0 (.slice none 0 0)) :: kb b0 38 row0 :: X)) := hds
    clear hds hst hla hlb HD2
    generalize wx2.setRow RN (gcells 0 0 0 (.slice none 0 0)).toArray = wx3 at *
    refine hKc.out _ _ (HD3.out.pv (i := i + 2) hi) (fun hHeld => ?_)
    clear hKc Kc
    refine tk 14 hHeld ?_
    clear hHeld
    refine wpAnyH_done (by kernel_rfl) (NoPanic.normal ?_) _
    have H9 : Hid (Fz w0 wx3 (kb b0 38 row0 :: X)) := Fz.pop HD3.out
    clear HD3
    generalize wx3 = w9 at *
    have HBD : Hid (_) := build_row0 w9
    obtain ⟨wz, hst, hlz, hfz⟩ := Fz.laid (X := X) H9.out (r := ⟨0, 0, zv, 0, 0⟩) (zs_len 32)
    have HST : Hid (_) := hst
    have HLz : Hid (_) := hlz
    have HFz : Hid (Fz w0 wz X) := hfz
    clear hst hlz hfz
    go_wp2_with ((with_reducible refine at_ops ?_); (first | (refine wpList_build_is (vs := []) (by rfl) 38 rfl (by rfl) HBD.out ?_) | (refine wpList_store_is (by rfl) 38 rfl rfl rfl HST.out ?_)); simp only [Act.put, List.setIfInBounds_toArray, List.set_cons_zero, List.set_cons_succ])
    (try simp only [Exit.inBlock, Exit.then])
    exact bodyPost_ret (results_lat Tryd.results24 _ _ _ 38 _ _ (by rfl) HLz.out Tryd.underlying38 rfl (by rw [size_row, rowc_len (zs_len 32)])) rfl ⟨rfl, HFz.out⟩
set_option maxHeartbeats 2000000 in
set_option maxRecDepth 100000 in
theorem step_read_none (h : Fz w0 w X) (hi : X[i]? = some (kr P none x)) (hs : x.st = 1) : Calls Tryd.prog 8 #[qp P] w fun e w' => e = .returned (.tuple #[.agg row0.toArray, .int .i64 1]) ∧ Fz w0 w' X := by
  obtain ⟨w1, hal, hb1, h1⟩ := h.rowbox
  generalize w.heap.size = b0 at h1 hal hb1
  have HAL : Hid (_) := hal
  obtain ⟨G, v, hp, -⟩ := h1.atr (i := i + 1) hi
  have c6 := hp.c6
  rw [hs] at c6
  have H1 : Hid (Fz w0 w1 (kb b0 38 row0 :: X)) := h1
  clear h1 hp hal h hb1
  go_enter Tryd.func8, Tryd.ntmps8
  go_wp2_with ((with_reducible refine at_ops ?_); (refine wpList_alloc_is (by rfl) 38 rfl HAL.out ?_); simp only [Act.put, List.setIfInBounds_toArray, List.set_cons_zero, List.set_cons_succ])
  refine (read_none (i := i + 1) H1.out hi).mono ?_
  rintro e w2 ⟨rfl, h2⟩
  obtain ⟨wz, hst, hlz, hfz⟩ := Fz.laid (X := X) h2 (r := ⟨0, 0, zv, 0, 0⟩) (zs_len 32)
  have HST : Hid (_) := hst
  have HLz : Hid (_) := hlz
  have HFz : Hid (Fz w0 wz X) := hfz
  clear h2 hst hlz hfz H1 HAL c6
  go_wp2_with ((with_reducible refine at_ops ?_); (refine wpList_store_is (by rfl) 38 rfl rfl rfl HST.out ?_); simp only [Act.put])
  (try simp only [Exit.inBlock, Exit.then])
  exact bodyPost_ret (results_lat Tryd.results8 _ _ _ 38 _ _ (by rfl) HLz.out Tryd.underlying38 rfl (by rw [size_row, rowc_len (zs_len 32)])) rfl ⟨rfl, HFz.out⟩
set_option maxHeartbeats 2000000 in
set_option maxRecDepth 100000 in
theorem step_carry_none (ok : x.Ok n) {k : Im} {r : List Im} (hl : x.left = k :: r) (h : Fz w0 w X) (hi : X[i]? = some (kr P none x)) (hs : x.st = 2) : Calls Tryd.prog 8 #[qp P] w fun e w' => e = .returned (.tuple #[.agg row0.toArray, .int .i64 1]) ∧ Fz w0 w' X := by
  obtain ⟨w1, hal, hb1, h1⟩ := h.rowbox
  generalize w.heap.size = b0 at h1 hal hb1
  have HAL : Hid (_) := hal
  obtain ⟨G, v, hp, -⟩ := h1.atr (i := i + 1) hi
  have c6 := hp.c6
  rw [hs] at c6
  have H1 : Hid (Fz w0 w1 (kb b0 38 row0 :: X)) := h1
  clear h1 hp hal h hb1
  go_enter Tryd.func8, Tryd.ntmps8
  go_wp2_with ((with_reducible refine at_ops ?_); (refine wpList_alloc_is (by rfl) 38 rfl HAL.out ?_); simp only [Act.put, List.setIfInBounds_toArray, List.set_cons_zero, List.set_cons_succ])
  refine (carry_none (i := i + 1) H1.out hi ok hs hl).mono ?_
  rintro e w2 ⟨rfl, h2⟩
  obtain ⟨wz, hst, hlz, hfz⟩ := Fz.laid (X := X) h2 (r := ⟨0, 0, zv, 0, 0⟩) (zs_len 32)
  have HST : Hid (_) := hst
  have HLz : Hid (_) := hlz
  have HFz : Hid (Fz w0 wz X) := hfz
  clear h2 hst hlz hfz H1 HAL c6
  go_wp2_with ((with_reducible refine at_ops ?_); (refine wpList_store_is (by rfl) 38 rfl rfl rfl HST.out ?_); simp only [Act.put])
  (try simp only [Exit.inBlock, Exit.then])
  exact bodyPost_ret (results_lat Tryd.results8 _ _ _ 38 _ _ (by rfl) HLz.out Tryd.underlying38 rfl (by rw [size_row, rowc_len (zs_len 32)])) rfl ⟨rfl, HFz.out⟩
set_option maxHeartbeats 2000000 in
set_option maxRecDepth 100000 in
theorem step_flush_none (h : Fz w0 w X) (hi : X[i]? = some (kr P none x)) (hs : x.st = 3) : Calls Tryd.prog 8 #[qp P] w fun e w' => e = .returned (.tuple #[.agg row0.toArray, .int .i64 1]) ∧ Fz w0 w' X := by
  obtain ⟨w1, hal, hb1, h1⟩ := h.rowbox
  generalize w.heap.size = b0 at h1 hal hb1
  have HAL : Hid (_) := hal
  obtain ⟨G, v, hp, -⟩ := h1.atr (i := i + 1) hi
  have c6 := hp.c6
  rw [hs] at c6
  have H1 : Hid (Fz w0 w1 (kb b0 38 row0 :: X)) := h1
  clear h1 hp hal h hb1
  go_enter Tryd.func8, Tryd.ntmps8
  go_wp2_with ((with_reducible refine at_ops ?_); (refine wpList_alloc_is (by rfl) 38 rfl HAL.out ?_); simp only [Act.put, List.setIfInBounds_toArray, List.set_cons_zero, List.set_cons_succ])
  refine (flush_none (i := i + 1) H1.out hi).mono ?_
  rintro e w2 ⟨rfl, h2⟩
  obtain ⟨wz, hst, hlz, hfz⟩ := Fz.laid (X := X) h2 (r := ⟨0, 0, zv, 0, 0⟩) (zs_len 32)
  have HST : Hid (_) := hst
  have HLz : Hid (_) := hlz
  have HFz : Hid (Fz w0 wz X) := hfz
  clear h2 hst hlz hfz H1 HAL c6
  go_wp2_with ((with_reducible refine at_ops ?_); (refine wpList_store_is (by rfl) 38 rfl rfl rfl HST.out ?_); simp only [Act.put])
  (try simp only [Exit.inBlock, Exit.then])
  exact bodyPost_ret (results_lat Tryd.results8 _ _ _ 38 _ _ (by rfl) HLz.out Tryd.underlying38 rfl (by rw [size_row, rowc_len (zs_len 32)])) rfl ⟨rfl, HFz.out⟩
set_option maxHeartbeats 2000000 in
set_option maxRecDepth 100000 in
theorem step_mark_none (ht : Tab w0) (ok : x.Ok n) (h : Fz w0 w X) (hi : X[i]? = some (kr P none x)) (hs : x.st = 4) : Calls Tryd.prog 8 #[qp P] w fun e w' => e = .returned (.tuple #[.agg row0.toArray, .int .i64 1]) ∧ Fz w0 w' X := by
  obtain ⟨w1, hal, hb1, h1⟩ := h.rowbox
  generalize w.heap.size = b0 at h1 hal hb1
  have HAL : Hid (_) := hal
  obtain ⟨G, v, hp, -⟩ := h1.atr (i := i + 1) hi
  have c6 := hp.c6
  rw [hs] at c6
  have H1 : Hid (Fz w0 w1 (kb b0 38 row0 :: X)) := h1
  clear h1 hp hal h hb1
  go_enter Tryd.func8, Tryd.ntmps8
  go_wp2_with ((with_reducible refine at_ops ?_); (refine wpList_alloc_is (by rfl) 38 rfl HAL.out ?_); simp only [Act.put, List.setIfInBounds_toArray, List.set_cons_zero, List.set_cons_succ])
  refine (mark_none (i := i + 1) ht H1.out hi ok hs).mono ?_
  rintro e w2 ⟨rfl, h2⟩
  obtain ⟨wz, hst, hlz, hfz⟩ := Fz.laid (X := X) h2 (r := ⟨0, 0, zv, 0, 0⟩) (zs_len 32)
  have HST : Hid (_) := hst
  have HLz : Hid (_) := hlz
  have HFz : Hid (Fz w0 wz X) := hfz
  clear h2 hst hlz hfz H1 HAL c6
  go_wp2_with ((with_reducible refine at_ops ?_); (refine wpList_store_is (by rfl) 38 rfl rfl rfl HST.out ?_); simp only [Act.put])
  (try simp only [Exit.inBlock, Exit.then])
  exact bodyPost_ret (results_lat Tryd.results8 _ _ _ 38 _ _ (by rfl) HLz.out Tryd.underlying38 rfl (by rw [size_row, rowc_len (zs_len 32)])) rfl ⟨rfl, HFz.out⟩
set_option maxHeartbeats 2000000 in
set_option maxRecDepth 100000 in
theorem step_end_none (h : Fz w0 w X) (hi : X[i]? = some (kr P none x)) (hs : x.st = 5) : Calls Tryd.prog 8 #[qp P] w fun e w' => e = .returned (.tuple #[.agg row0.toArray, .int .i64 1]) ∧ Fz w0 w' X := by
  obtain ⟨w1, hal, hb1, h1⟩ := h.rowbox
  generalize w.heap.size = b0 at h1 hal hb1
  have HAL : Hid (_) := hal
  obtain ⟨G, v, hp, -⟩ := h1.atr (i := i + 1) hi
  have c6 := hp.c6
  rw [hs] at c6
  have H1 : Hid (Fz w0 w1 (kb b0 38 row0 :: X)) := h1
  clear h1 hp hal h hb1
  go_enter Tryd.func8, Tryd.ntmps8
  go_wp2_with ((with_reducible refine at_ops ?_); (refine wpList_alloc_is (by rfl) 38 rfl HAL.out ?_); simp only [Act.put, List.setIfInBounds_toArray, List.set_cons_zero, List.set_cons_succ])
  refine (end_none (i := i + 1) H1.out hi).mono ?_
  rintro e w2 ⟨rfl, h2⟩
  obtain ⟨wz, hst, hlz, hfz⟩ := Fz.laid (X := X) h2 (r := ⟨0, 0, zv, 0, 0⟩) (zs_len 32)
  have HST : Hid (_) := hst
  have HLz : Hid (_) := hlz
  have HFz : Hid (Fz w0 wz X) := hfz
  clear h2 hst hlz hfz H1 HAL c6
  go_wp2_with ((with_reducible refine at_ops ?_); (refine wpList_store_is (by rfl) 38 rfl rfl rfl HST.out ?_); simp only [Act.put])
  (try simp only [Exit.inBlock, Exit.then])
  exact bodyPost_ret (results_lat Tryd.results8 _ _ _ 38 _ _ (by rfl) HLz.out Tryd.underlying38 rfl (by rw [size_row, rowc_len (zs_len 32)])) rfl ⟨rfl, HFz.out⟩
theorem step_none (ht : Tab w0) (h : Fz w0 w X) (hi : X[i]? = some (kr P none x)) (ok : x.Ok n) : Calls Tryd.prog 8 #[qp P] w fun e w' => e = .returned (.tuple #[.agg row0.toArray, .int .i64 (if x.st = 6 then 190 else 1)]) ∧ Fz w0 w' X := by
  have s0 := ok.s0; have s1 := ok.s1
  by_cases h6 : x.st = 6
  · rw [if_pos h6]; exact step_idle h hi h6
  · rw [if_neg h6]
    rcases (by omega : x.st = 1 ∨ x.st = 2 ∨ x.st = 3 ∨ x.st = 4 ∨ x.st = 5) with e | e | e | e | e
    · exact step_read_none h hi e
    · obtain ⟨k, r, hl⟩ : ∃ k r, x.left = k :: r := by
        cases c : x.left with
        | nil => exact absurd c (ok.car e)
        | cons k r => exact ⟨k, r, rfl⟩
      exact step_carry_none ok hl h hi e
    · exact step_flush_none h hi e
    · exact step_mark_none ht ok h hi e
    · exact step_end_none h hi e
end
end Go.Proofs.YtdadpepfpiimgaaDoor.Q
