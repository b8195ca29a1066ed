import Derived.Test.YtdadpepfpiimgaaGreatDoorY18
import Derived.Test.YtdadpepfpiimgaaGreatDoorY20
import Derived.ProofKit
import Derived.LaidMore
import Derived.OpenShut
import Derived.Stop.Joined
import Derived.Stop.LaidErr
import Derived.Lib.LaidTab
import Derived.ShutString
set_option maxHeartbeats 20000000
set_option maxRecDepth 100000
namespace Go.Proofs.YtdadpepfpiimgaaGreatDoor.Q
open Go.RowKit
section
variable {w0 w : World} {X : List Kd} {i j P p n : Nat} {q : Option Nat} {D : Dd} {x : Rc}
set_option maxHeartbeats 2000000 in
set_option maxRecDepth 100000 in
theorem step_flush_at (_ht : Tab w0) (h : Fz w0 w X) (hi : X[i]? = some (kr P (some p) x)) (hj : X[j]? = some (kd p n D)) (hij : i ≠ j) (_ok : x.Ok n) (hk : D.ws.length ≤ 100000) (hs : x.st = 3) : Calls Tryz.prog 10 #[qp P] w fun e w' => e = .returned (.tuple #[.agg (rowc (stepS n x D).row).toArray, .int .i64 (stepS n x D).err]) ∧ Fz w0 w' ((X.set j (kd p n (stepS n x D).D)).set i (kr P (some p) (stepS n x D).x)) := by
  rw [step_flush hs]
  obtain ⟨w1, hal, hb1, h1⟩ := h.rowbox
  generalize w.heap.size = b0 at h1 hal hb1
  have HAL : Hid (_) := hal
  obtain ⟨G, v, hp, -⟩ := h1.atr (i := i + 1) hi
  have c6 := hp.c6
  rw [hs] at c6
  have H1 : Hid (Fz w0 w1 (kb b0 42 row0 :: X)) := h1
  clear h1 hp hal h hb1
  go_enter Tryz.func10, Tryz.ntmps10
  go_wp2_with ((with_reducible refine at_ops ?_); (refine wpList_alloc_is (by rfl) 42 rfl HAL.out ?_); simp only [Act.put, List.setIfInBounds_toArray, List.set_cons_zero, List.set_cons_succ])
  refine (flush_at (i := i + 1) (j := j + 1) H1.out hi hj (by omega) hk hs).mono ?_
  rintro e w2 ⟨rfl, h2⟩
  obtain ⟨wz, hst, hlz, hfz⟩ := Fz.laid (X := (X.set j (kd p n D.fls)).set i (kr P (some p) { x with st := 4 })) h2 (r := ⟨12, -1, zv, 0, D.ws.length⟩) (zs_len 32)
  have HST : Hid (_) := hst
  have HLz : Hid (_) := hlz
  have HFz : Hid (Fz w0 wz ((X.set j (kd p n D.fls)).set i (kr P (some p) { x with st := 4 }))) := hfz
  clear h2 hst hlz hfz H1 HAL c6
  go_wp2_with ((with_reducible refine at_ops ?_); (refine wpList_store_is (by rfl) 42 rfl rfl rfl HST.out ?_); simp only [Act.put])
  (try simp only [Exit.inBlock, Exit.then])
  exact bodyPost_ret (results_lat Tryz.results10 _ _ _ 42 _ _ (by rfl) HLz.out Tryz.underlying42 rfl (by rw [size_row, rowc_len (zs_len 32)])) rfl ⟨rfl, HFz.out⟩
set_option maxHeartbeats 2000000 in
set_option maxRecDepth 100000 in
theorem step_mark_at (ht : Tab w0) (h : Fz w0 w X) (hi : X[i]? = some (kr P (some p) x)) (hj : X[j]? = some (kd p n D)) (hij : i ≠ j) (ok : x.Ok n) (hk : D.ws.length ≤ 100000) (hs : x.st = 4) : Calls Tryz.prog 10 #[qp P] w fun e w' => e = .returned (.tuple #[.agg (rowc (stepS n x D).row).toArray, .int .i64 (stepS n x D).err]) ∧ Fz w0 w' ((X.set j (kd p n (stepS n x D).D)).set i (kr P (some p) (stepS n x D).x)) := by
  rw [step_mark hs]
  obtain ⟨w1, hal, hb1, h1⟩ := h.rowbox
  generalize w.heap.size = b0 at h1 hal hb1
  have HAL : Hid (_) := hal
  obtain ⟨G, v, hp, -⟩ := h1.atr (i := i + 1) hi
  have c6 := hp.c6
  rw [hs] at c6
  have H1 : Hid (Fz w0 w1 (kb b0 42 row0 :: X)) := h1
  clear h1 hp hal h hb1
  go_enter Tryz.func10, Tryz.ntmps10
  go_wp2_with ((with_reducible refine at_ops ?_); (refine wpList_alloc_is (by rfl) 42 rfl HAL.out ?_); simp only [Act.put, List.setIfInBounds_toArray, List.set_cons_zero, List.set_cons_succ])
  refine (mark_at (i := i + 1) (j := j + 1) ht H1.out hi hj (by omega) ok hk hs).mono ?_
  rintro e w2 ⟨rfl, h2⟩
  obtain ⟨wz, hst, hlz, hfz⟩ := Fz.laid (X := (X.set j (kd p n (D.wr 0 (encS (supN x))))).set i (kr P (some p) { x with st := 5 })) h2 (r := ⟨16, -1, zv, x.en + x.c.lc, 0⟩) (zs_len 32)
  have HST : Hid (_) := hst
  have HLz : Hid (_) := hlz
  have HFz : Hid (Fz w0 wz ((X.set j (kd p n (D.wr 0 (encS (supN x))))).set i (kr P (some p) { x with st := 5 }))) := hfz
  clear h2 hst hlz hfz H1 HAL c6
  go_wp2_with ((with_reducible refine at_ops ?_); (refine wpList_store_is (by rfl) 42 rfl rfl rfl HST.out ?_); simp only [Act.put])
  (try simp only [Exit.inBlock, Exit.then])
  exact bodyPost_ret (results_lat Tryz.results10 _ _ _ 42 _ _ (by rfl) HLz.out Tryz.underlying42 rfl (by rw [size_row, rowc_len (zs_len 32)])) rfl ⟨rfl, HFz.out⟩
set_option maxHeartbeats 2000000 in
set_option maxRecDepth 100000 in
theorem step_end_at (_ht : Tab w0) (h : Fz w0 w X) (hi : X[i]? = some (kr P (some p) x)) (hj : X[j]? = some (kd p n D)) (hij : i ≠ j) (_ok : x.Ok n) (hk : D.ws.length ≤ 100000) (hs : x.st = 5) : Calls Tryz.prog 10 #[qp P] w fun e w' => e = .returned (.tuple #[.agg (rowc (stepS n x D).row).toArray, .int .i64 (stepS n x D).err]) ∧ Fz w0 w' ((X.set j (kd p n (stepS n x D).D)).set i (kr P (some p) (stepS n x D).x)) := by
  rw [step_end hs]
  obtain ⟨w1, hal, hb1, h1⟩ := h.rowbox
  generalize w.heap.size = b0 at h1 hal hb1
  have HAL : Hid (_) := hal
  obtain ⟨G, v, hp, -⟩ := h1.atr (i := i + 1) hi
  have c6 := hp.c6
  rw [hs] at c6
  have H1 : Hid (Fz w0 w1 (kb b0 42 row0 :: X)) := h1
  clear h1 hp hal h hb1
  go_enter Tryz.func10, Tryz.ntmps10
  go_wp2_with ((with_reducible refine at_ops ?_); (refine wpList_alloc_is (by rfl) 42 rfl HAL.out ?_); simp only [Act.put, List.setIfInBounds_toArray, List.set_cons_zero, List.set_cons_succ])
  refine (end_at (i := i + 1) (j := j + 1) H1.out hi hj (by omega) hk hs).mono ?_
  rintro e w2 ⟨rfl, h2⟩
  obtain ⟨wz, hst, hlz, hfz⟩ := Fz.laid (X := (X.set j (kd p n D.fls)).set i (kr P (some p) { x with st := 6 })) h2 (r := ⟨20, -1, zv, x.en + x.c.lc, 0⟩) (zs_len 32)
  have HST : Hid (_) := hst
  have HLz : Hid (_) := hlz
  have HFz : Hid (Fz w0 wz ((X.set j (kd p n D.fls)).set i (kr P (some p) { x with st := 6 }))) := hfz
  clear h2 hst hlz hfz H1 HAL c6
  go_wp2_with ((with_reducible refine at_ops ?_); (refine wpList_store_is (by rfl) 42 rfl rfl rfl HST.out ?_); simp only [Act.put])
  (try simp only [Exit.inBlock, Exit.then])
  exact bodyPost_ret (results_lat Tryz.results10 _ _ _ 42 _ _ (by rfl) HLz.out Tryz.underlying42 rfl (by rw [size_row, rowc_len (zs_len 32)])) rfl ⟨rfl, HFz.out⟩
set_option maxHeartbeats 2000000 in
set_option maxRecDepth 100000 in
theorem step_carry_at (ht : Tab w0) (h : Fz w0 w X) (hi : X[i]? = some (kr P (some p) x)) (hj : X[j]? = some (kd p n D)) (hij : i ≠ j) (ok : x.Ok n) (hk : D.ws.length ≤ 100000) (hs : x.st = 2) {k : Im} {r : List Im} (hl : x.left = k :: r) : Calls Tryz.prog 10 #[qp P] w fun e w' => e = .returned (.tuple #[.agg (rowc (stepS n x D).row).toArray, .int .i64 (stepS n x D).err]) ∧ Fz w0 w' ((X.set j (kd p n (stepS n x D).D)).set i (kr P (some p) (stepS n x D).x)) := by
  rw [step_carry hs hl]
  have HK32 : Hid (k.v.length = 32) := (ok.wf k (by rw [hl]; exact List.mem_cons.2 (.inl rfl))).len
  obtain ⟨w1, hal, hb1, h1⟩ := h.rowbox
  generalize w.heap.size = b0 at h1 hal hb1
  have HAL : Hid (_) := hal
  obtain ⟨G, v, hp, -⟩ := h1.atr (i := i + 1) hi
  have c6 := hp.c6
  rw [hs] at c6
  have H1 : Hid (Fz w0 w1 (kb b0 42 row0 :: X)) := h1
  clear h1 hp hal h hb1
  go_enter Tryz.func10, Tryz.ntmps10
  go_wp2_with ((with_reducible refine at_ops ?_); (refine wpList_alloc_is (by rfl) 42 rfl HAL.out ?_); simp only [Act.put, List.setIfInBounds_toArray, List.set_cons_zero, List.set_cons_succ])
  refine (carry_at (i := i + 1) (j := j + 1) ht H1.out hi hj (by omega) ok hk hs hl).mono ?_
  rintro e w2 ⟨rfl, h2⟩
  obtain ⟨wz, hst, hlz, hfz⟩ := Fz.laid (X := (X.set j (kd p n (D.wr (1 + k.b).toNat (homeS k.b k.v)))).set i (kr P (some p) { x with st := aftS r, left := r })) h2 (r := ⟨15, k.b, k.v, 0, 0⟩) HK32.out
  have HST : Hid (_) := hst
  have HLz : Hid (_) := hlz
  have HFz : Hid (Fz w0 wz ((X.set j (kd p n (D.wr (1 + k.b).toNat (homeS k.b k.v)))).set i (kr P (some p) { x with st := aftS r, left := r }))) := hfz
  clear h2 hst hlz hfz H1 HAL c6
  go_wp2_with ((with_reducible refine at_ops ?_); (refine wpList_store_is (by rfl) 42 rfl rfl rfl HST.out ?_); simp only [Act.put])
  (try simp only [Exit.inBlock, Exit.then])
  exact bodyPost_ret (results_lat Tryz.results10 _ _ _ 42 _ _ (by rfl) HLz.out Tryz.underlying42 rfl (by rw [size_row, rowc_len HK32.out])) rfl ⟨rfl, HFz.out⟩
set_option maxHeartbeats 2000000 in
set_option maxRecDepth 100000 in
theorem step_read_at (ht : Tab w0) (h : Fz w0 w X) (hi : X[i]? = some (kr P (some p) x)) (hj : X[j]? = some (kd p n D)) (_hij : i ≠ j) (ok : x.Ok n) (_hk : D.ws.length ≤ 100000) (hs : x.st = 1) (hz : (rdL x.c n D.rd).2 = 0) (hw : ¬ wrapS x.c (lgS n x.c D)) : Calls Tryz.prog 10 #[qp P] w fun e w' => e = .returned (.tuple #[.agg (rowc (stepS n x D).row).toArray, .int .i64 (stepS n x D).err]) ∧ Fz w0 w' ((X.set j (kd p n (stepS n x D).D)).set i (kr P (some p) (stepS n x D).x)) := by
  rw [step_read hs (by unfold rdE; rw [if_pos hz, if_neg hw])]
  have HS : Hid (X.set j (kd p n D) = X) := Fz.set_same hj
  rw [HS.out]
  obtain ⟨w1, hal, hb1, h1⟩ := h.rowbox
  generalize w.heap.size = b0 at h1 hal hb1
  have HAL : Hid (_) := hal
  obtain ⟨G, v, hp, -⟩ := h1.atr (i := i + 1) hi
  have c6 := hp.c6
  rw [hs] at c6
  have H1 : Hid (Fz w0 w1 (kb b0 42 row0 :: X)) := h1
  clear h1 hp hal h hb1
  go_enter Tryz.func10, Tryz.ntmps10
  go_wp2_with ((with_reducible refine at_ops ?_); (refine wpList_alloc_is (by rfl) 42 rfl HAL.out ?_); simp only [Act.put, List.setIfInBounds_toArray, List.set_cons_zero, List.set_cons_succ])
  refine (read_good (i := i + 1) (j := j + 1) ht H1.out hi hj ok hs hz hw).mono ?_
  rintro e w2 ⟨rfl, h2⟩
  obtain ⟨wz, hst, hlz, hfz⟩ := Fz.laid (X := X.set i (kr P (some p) (readR n x D))) h2 (r := ⟨19, -1, zv, (lgS n x.c D).fin, (lgS n x.c D).txs.length⟩) (zs_len 32)
  have HST : Hid (_) := hst
  have HLz : Hid (_) := hlz
  have HFz : Hid (Fz w0 wz (X.set i (kr P (some p) (readR n x D)))) := hfz
  clear h2 hst hlz hfz H1 HAL c6
  go_wp2_with ((with_reducible refine at_ops ?_); (refine wpList_store_is (by rfl) 42 rfl rfl rfl HST.out ?_); simp only [Act.put])
  (try simp only [Exit.inBlock, Exit.then])
  exact bodyPost_ret (results_lat Tryz.results10 _ _ _ 42 _ _ (by rfl) HLz.out Tryz.underlying42 rfl (by rw [size_row, rowc_len (zs_len 32)])) rfl ⟨rfl, HFz.out⟩
set_option maxHeartbeats 2000000 in
set_option maxRecDepth 100000 in
theorem step_bad_at (ht : Tab w0) (h : Fz w0 w X) (hi : X[i]? = some (kr P (some p) x)) (hj : X[j]? = some (kd p n D)) (_hij : i ≠ j) (_ok : x.Ok n) (_hk : D.ws.length ≤ 100000) (hs : x.st = 1) (hz : (rdL x.c n D.rd).2 ≠ 0) : Calls Tryz.prog 10 #[qp P] w fun e w' => e = .returned (.tuple #[.agg (rowc (stepS n x D).row).toArray, .int .i64 (stepS n x D).err]) ∧ Fz w0 w' ((X.set j (kd p n (stepS n x D).D)).set i (kr P (some p) (stepS n x D).x)) := by
  rw [step_bad hs (by unfold rdE; rw [if_neg hz]; exact hz), show rdE n x.c D = (rdL x.c n D.rd).2 from if_neg hz]
  have HS : Hid ((X.set j (kd p n D)).set i (kr P (some p) x) = X) := by show _ = _; rw [Fz.set_same hj, Fz.set_same hi]
  rw [HS.out]
  obtain ⟨w1, hal, hb1, h1⟩ := h.rowbox
  generalize w.heap.size = b0 at h1 hal hb1
  have HAL : Hid (_) := hal
  obtain ⟨G, v, hp, -⟩ := h1.atr (i := i + 1) hi
  have c6 := hp.c6
  rw [hs] at c6
  have H1 : Hid (Fz w0 w1 (kb b0 42 row0 :: X)) := h1
  clear h1 hp hal h hb1
  go_enter Tryz.func10, Tryz.ntmps10
  go_wp2_with ((with_reducible refine at_ops ?_); (refine wpList_alloc_is (by rfl) 42 rfl HAL.out ?_); simp only [Act.put, List.setIfInBounds_toArray, List.set_cons_zero, List.set_cons_succ])
  refine (read_bad (i := i + 1) (j := j + 1) ht H1.out hi hj hz).mono ?_
  rintro e w2 ⟨rfl, h2⟩
  obtain ⟨wz, hst, hlz, hfz⟩ := Fz.laid (X := X) h2 (r := ⟨0, 0, zv, 0, 0⟩) (zs_len 32)
  have HST : Hid (_) := hst
  have HLz : Hid (_) := hlz
  have HFz : Hid (Fz w0 wz (X)) := hfz
  clear h2 hst hlz hfz H1 HAL c6
  go_wp2_with ((with_reducible refine at_ops ?_); (refine wpList_store_is (by rfl) 42 rfl rfl rfl HST.out ?_); simp only [Act.put])
  (try simp only [Exit.inBlock, Exit.then])
  exact bodyPost_ret (results_lat Tryz.results10 _ _ _ 42 _ _ (by rfl) HLz.out Tryz.underlying42 rfl (by rw [size_row, rowc_len (zs_len 32)])) rfl ⟨rfl, HFz.out⟩
set_option maxHeartbeats 2000000 in
set_option maxRecDepth 100000 in
theorem step_wrap_at (ht : Tab w0) (h : Fz w0 w X) (hi : X[i]? = some (kr P (some p) x)) (hj : X[j]? = some (kd p n D)) (_hij : i ≠ j) (ok : x.Ok n) (_hk : D.ws.length ≤ 100000) (hs : x.st = 1) (hz : (rdL x.c n D.rd).2 = 0) (hw : wrapS x.c (lgS n x.c D)) : Calls Tryz.prog 10 #[qp P] w fun e w' => e = .returned (.tuple #[.agg (rowc (stepS n x D).row).toArray, .int .i64 (stepS n x D).err]) ∧ Fz w0 w' ((X.set j (kd p n (stepS n x D).D)).set i (kr P (some p) (stepS n x D).x)) := by
  have hE : rdE n x.c D = 31 := by unfold rdE; rw [if_pos hz, if_pos hw]
  rw [step_bad hs (by rw [hE]; decide), hE]
  have HS : Hid ((X.set j (kd p n D)).set i (kr P (some p) x) = X) := by show _ = _; rw [Fz.set_same hj, Fz.set_same hi]
  rw [HS.out]
  obtain ⟨w1, hal, hb1, h1⟩ := h.rowbox
  generalize w.heap.size = b0 at h1 hal hb1
  have HAL : Hid (_) := hal
  obtain ⟨G, v, hp, -⟩ := h1.atr (i := i + 1) hi
  have c6 := hp.c6
  rw [hs] at c6
  have H1 : Hid (Fz w0 w1 (kb b0 42 row0 :: X)) := h1
  clear h1 hp hal h hb1
  go_enter Tryz.func10, Tryz.ntmps10
  go_wp2_with ((with_reducible refine at_ops ?_); (refine wpList_alloc_is (by rfl) 42 rfl HAL.out ?_); simp only [Act.put, List.setIfInBounds_toArray, List.set_cons_zero, List.set_cons_succ])
  refine (read_wrap (i := i + 1) (j := j + 1) ht H1.out hi hj ok hz hw).mono ?_
  rintro e w2 ⟨rfl, h2⟩
  obtain ⟨wz, hst, hlz, hfz⟩ := Fz.laid (X := X) h2 (r := ⟨0, 0, zv, 0, 0⟩) (zs_len 32)
  have HST : Hid (_) := hst
  have HLz : Hid (_) := hlz
  have HFz : Hid (Fz w0 wz (X)) := hfz
  clear h2 hst hlz hfz H1 HAL c6
  go_wp2_with ((with_reducible refine at_ops ?_); (refine wpList_store_is (by rfl) 42 rfl rfl rfl HST.out ?_); simp only [Act.put])
  (try simp only [Exit.inBlock, Exit.then])
  exact bodyPost_ret (results_lat Tryz.results10 _ _ _ 42 _ _ (by rfl) HLz.out Tryz.underlying42 rfl (by rw [size_row, rowc_len (zs_len 32)])) rfl ⟨rfl, HFz.out⟩
set_option maxHeartbeats 2000000 in
set_option maxRecDepth 100000 in
theorem step_idle (h : Fz w0 w X) (hi : X[i]? = some (kr P q x)) (hs : x.st = 6) : Calls Tryz.prog 10 #[qp P] w fun e w' => e = .returned (.tuple #[.agg row0.toArray, .int .i64 190]) ∧ Fz w0 w' X := by
  obtain ⟨w1, hal, hb1, h1⟩ := h.rowbox
  generalize w.heap.size = b0 at h1 hal hb1
  have HAL : Hid (_) := hal
  obtain ⟨G, v, hp, -⟩ := h1.atr (i := i + 1) hi
  have c6 := hp.c6
  rw [hs] at c6
  have HBD : Hid (_) := build_row0 w1
  obtain ⟨wz, hst, hlz, hfz⟩ := Fz.laid (X := X) h1 (r := ⟨0, 0, zv, 0, 0⟩) (zs_len 32)
  have HST : Hid (_) := hst
  have HLz : Hid (_) := hlz
  have HFz : Hid (Fz w0 wz X) := hfz
  clear h1 hp hal h hb1 hst hlz hfz
  go_enter Tryz.func10, Tryz.ntmps10
  go_wp2_with ((with_reducible refine at_ops ?_); (first | (refine wpList_alloc_is (by rfl) 42 rfl HAL.out ?_) | (refine wpList_build_is (vs := []) (by rfl) 42 rfl (by rfl) HBD.out ?_) | (refine wpList_store_is (by rfl) 42 rfl rfl rfl HST.out ?_)); simp only [Act.put, List.setIfInBounds_toArray, List.set_cons_zero, List.set_cons_succ])
  (try simp only [Exit.inBlock, Exit.then])
  exact bodyPost_ret (results_lat Tryz.results10 _ _ _ 42 _ _ (by rfl) HLz.out Tryz.underlying42 rfl (by rw [size_row, rowc_len (zs_len 32)])) rfl ⟨rfl, HFz.out⟩
theorem step_at (ht : Tab w0) (h : Fz w0 w X) (hi : X[i]? = some (kr P (some p) x)) (hj : X[j]? = some (kd p n D)) (hij : i ≠ j) (ok : x.Ok n) (hk : D.ws.length ≤ 100000) : Calls Tryz.prog 10 #[qp P] w fun e w' => e = .returned (.tuple #[.agg (rowc (stepS n x D).row).toArray, .int .i64 (stepS n x D).err]) ∧ Fz w0 w' ((X.set j (kd p n (stepS n x D).D)).set i (kr P (some p) (stepS n x D).x)) := by
  have s0 := ok.s0; have s1 := ok.s1
  rcases (by omega : x.st = 1 ∨ x.st = 2 ∨ x.st = 3 ∨ x.st = 4 ∨ x.st = 5 ∨ x.st = 6) with e | e | e | e | e | e
  · by_cases hz : (rdL x.c n D.rd).2 = 0
    · by_cases hw : wrapS x.c (lgS n x.c D)
      · exact step_wrap_at ht h hi hj hij ok hk e hz hw
      · exact step_read_at ht h hi hj hij ok hk e hz hw
    · exact step_bad_at ht h hi hj hij ok hk e hz
  · obtain ⟨k, r, hl⟩ : ∃ k r, x.left = k :: r := by
      cases c : x.left with
      | nil => exact absurd c (ok.car e)
      | cons k r => exact ⟨k, r, rfl⟩
    exact step_carry_at ht h hi hj hij ok hk e hl
  · exact step_flush_at ht h hi hj hij ok hk e
  · exact step_mark_at ht h hi hj hij ok hk e
  · exact step_end_at ht h hi hj hij ok hk e
  · rw [step_over e, Fz.set_same hj, Fz.set_same hi]
    exact step_idle h hi e
end
end Go.Proofs.YtdadpepfpiimgaaGreatDoor.Q
namespace Go.Proofs.YtdadpepfpiimgaaGreatDoor.Q
open Go.RowKit
section
variable {w0 w : World} {X : List Kd} {i j P p n : Nat} {q : Option Nat} {D : Dd} {x : Rc}
def sm : Sup := ⟨2, 4, 2, 4, 1, 0, 0⟩
theorem sm_may : MayC sm := by decide
theorem size_cfg : (Tryz.prog.info? 23).map (·.size) = some 5 := by kernel_rfl
set_option maxHeartbeats 2000000 in
set_option maxRecDepth 100000 in
theorem small_is (w : World) : Calls Tryz.prog 28 #[] w fun e w' => e = .returned (.agg (ccells sm).toArray) ∧ Below w.heap.size w w' := by
  have HA : Hid ((Instr.alloc 23 true (.tuple #[])).run Tryz.prog w = .ok (.pointer (some ⟨w.heap.size, 0, none⟩)) (w.alloc (.cells (ccells sup0).toArray 23))) := by
    have hz : (Tryz.prog.info? 23).bind (·.zero) = some (.agg (ccells sup0).toArray) := by kernel_rfl
    show _ = _
    simp only [Instr.alloc, Sem.run_bind, Go.Proofs.YtdadpepfpiimgaaGreatDoor.zv 23 _ hz, Result.andThen_ok]
    simp [newVar, newRow, Value.cells]
  have HB : Hid ((Instr.build 23 #[(0, .int .i64 2), (1, .int .i64 4), (2, .int .i64 2), (3, .int .i64 4), (4, .int .i64 1)]).run Tryz.prog (w.alloc (.cells (ccells sup0).toArray 23)) = .ok (.agg (ccells sm).toArray) (w.alloc (.cells (ccells sup0).toArray 23))) := run_build _ 23 _ _ (by kernel_rfl)
  have HS : Hid ((Instr.storeAt 23 (.pointer (some ⟨w.heap.size, 0, none⟩)) (.agg (ccells sm).toArray)).run Tryz.prog (w.alloc (.cells (ccells sup0).toArray 23)) = .ok () (w.alloc (.cells (ccells sm).toArray 23))) := by
    show _ = _
    rw [(LAt.new 23 w (ccells sup0)).store (ds := ccells sm) (by rw [size_cfg]; rfl) rfl (by simp [ccells, Value.oneCell']), setRow_alloc]
  have HL : Hid (LAt 23 (w.alloc (.cells (ccells sm).toArray 23)) w.heap.size (ccells sm)) := heap_alloc_new w _
  have HZ : Hid (Below w.heap.size w (w.alloc (.cells (ccells sm).toArray 23))) := below_alloc w _
  go_enter Tryz.func28, Tryz.ntmps28
  go_wp2_with ((with_reducible refine at_ops ?_); (first | (refine wpList_alloc_is (by rfl) 23 rfl HA.out ?_) | (refine wpList_build_is (vs := [(0, .int .i64 2), (1, .int .i64 4), (2, .int .i64 2), (3, .int .i64 4), (4, .int .i64 1)]) (by rfl) 23 rfl (by rfl) HB.out ?_) | (refine wpList_store_is (by rfl) 23 rfl rfl rfl HS.out ?_)); simp only [Act.put, List.setIfInBounds_toArray, List.set_cons_zero, List.set_cons_succ])
  (try simp only [Exit.inBlock, Exit.then])
  exact bodyPost_ret (results_lat1 Tryz.results28 _ _ w.heap.size 23 _ _ (by rfl) HL.out Tryz.underlying23 rfl (by rw [size_cfg]; rfl)) rfl ⟨rfl, HZ.out⟩
theorem rw_c (r : Rw) (hv : r.val.length = 32) {W : World} {B : Nat} (h : LAt 42 W B (rowc r)) : W.cell? ⟨B, 0, none⟩ = some (.int .i64 r.kind) ∧ W.cell? ⟨B, 1, none⟩ = some (.int .u64 0) ∧ W.cell? ⟨B, 2, none⟩ = some (.int .i64 0) ∧ W.cell? ⟨B, 3, none⟩ = some (.int .u64 0) ∧ W.cell? ⟨B, 4, none⟩ = some (.int .i64 r.block) ∧ W.cell? ⟨B, 37, none⟩ = some (.int .u64 r.pos) ∧ W.cell? ⟨B, 38, none⟩ = some (.int .i64 r.count) ∧ W.cell? ⟨B, 39, none⟩ = some (.int .i64 0) ∧ W.cell? ⟨B, 40, none⟩ = some (.slice none 0 0) := by
  have hb : ∀ j : Nat, (rowc r)[37 + j]? = ([.int .u64 r.pos, .int .i64 r.count, .int .i64 0, .slice none 0 0] : List Value)[j]? := fun j => by
    unfold rowc
    rw [List.getElem?_append_right (by simp; omega), List.getElem?_append_right (by simp [hv]; omega)]
    congr 1
    simp [hv]; omega
  refine ⟨?_, ?_, ?_, ?_, ?_, ?_, ?_, ?_, ?_⟩
  · rw [LAt.cell h 0]; rfl
  · rw [LAt.cell h 1]; rfl
  · rw [LAt.cell h 2]; rfl
  · rw [LAt.cell h 3]; rfl
  · rw [LAt.cell h 4]; rfl
  · rw [LAt.cell h 37, hb 0]; rfl
  · rw [LAt.cell h 38, hb 1]; rfl
  · rw [LAt.cell h 39, hb 2]; rfl
  · rw [LAt.cell h 40, hb 3]; rfl
theorem rw_val (r : Rw) (hv : r.val.length = 32) {W : World} {B : Nat} (h : LAt 42 W B (rowc r)) : (Instr.loadAt 39 (.pointer (some ⟨B, 5, none⟩))).run Tryz.prog W = .ok (.agg (U8 r.val).toArray) W :=
  run_loadAt_mid W B 5 39 (U8 r.val) _ (fun j u hu => by
    have hj : j < 32 := by have := (List.getElem?_eq_some_iff.1 hu).1; rw [U8_length, hv] at this; exact this
    rw [LAt.cell h (5 + j)]
    unfold rowc
    rw [List.getElem?_append_right (by simp), List.getElem?_append_left (by rw [U8_length, hv]; simp; omega)]
    rw [← hu]; congr 1; simp) Tryz.underlying39 rfl (by rw [sizeV, U8_length, hv])
set_option maxHeartbeats 2000000 in
set_option maxRecDepth 100000 in
theorem sameRow_eq (r : Rw) (hv : r.val.length = 32) (w : World) : Calls Tryz.prog 29 #[.agg (rowc r).toArray, .agg (rowc r).toArray] w fun e w' => e = .returned (.bool true) ∧ Below w.heap.size w w' := by
  obtain ⟨w1, hw1⟩ : ∃ W, w.alloc (.cells (rowc r).toArray 42) = W := ⟨_, rfl⟩
  obtain ⟨w2, hw2⟩ : ∃ W, w1.alloc (.cells (rowc r).toArray 42) = W := ⟨_, rfl⟩
  obtain ⟨A, hA⟩ : ∃ A, w.heap.size = A := ⟨_, rfl⟩
  have hA1 : w1.heap.size = A + 1 := by rw [← hw1, ← hA]; simp
  have l2 : LAt 42 w2 (A + 1) (rowc r) := by rw [← hw2, ← hA1]; exact heap_alloc_new w1 _
  have l1 : LAt 42 w2 A (rowc r) := by rw [← hw2]; exact LAt.later (t := 42) (by rw [← hw1, ← hA]; exact heap_alloc_new w _) (below_alloc w1 _)
  obtain ⟨a0, a1, a2, a3, a4, a37, a38, a39, a40⟩ := rw_c r hv l1
  obtain ⟨b0, b1, b2, b3, b4, b37, b38, b39, b40⟩ := rw_c r hv l2
  have HV1 : Hid (_) := rw_val r hv l1
  have HV2 : Hid (_) := rw_val r hv l2
  have HE : Hid ((binOp BinOp.eql 39 (.agg (U8 r.val).toArray) (.agg (U8 r.val).toArray)).run Tryz.prog w2 = .ok (.bool true) w2) := by
    have := R.eql24 w2 r.val r.val hv hv
    rw [decide_eq_true rfl] at this
    exact this
  have HB : Hid (Below A w w2) := by rw [← hA, ← hw2]; exact below_then (by rw [← hw1]; exact below_alloc w _) (below_alloc w1 _)
  clear l1 l2
  rw [hA]
  go_enter Tryz.func29, Tryz.ntmps29
  go_wp2_with fail
  go_loopw [5] (fun i wr => i = .int .i64 0 ∧ wr = w2) (fun _ _ => 0)
  case atStart => exact ⟨rfl, rfl⟩
  case round =>
    obtain ⟨rfl, hwr⟩ := hrel
    rw [hwr]
    go_wp2_with ((with_reducible refine at_ops ?_); (first | (refine wpList_load_is (by rfl) 39 rfl rfl HV1.out ?_) | (refine wpList_load_is (by rfl) 39 rfl rfl HV2.out ?_) | (refine wpList_eql_is (by rfl) 39 rfl rfl rfl (by rfl) HE.out ?_)); simp only [Act.put, List.setIfInBounds_toArray, List.set_cons_zero, List.set_cons_succ])
    go_ret
    exact ⟨rfl, HB.out⟩
end
end Go.Proofs.YtdadpepfpiimgaaGreatDoor.Q
namespace Go.Proofs.YtdadpepfpiimgaaGreatDoor.Q
open Go.RowKit
section
variable {w0 w : World} {X : List Kd} {i j P p n : Nat} {q : Option Nat} {D : Dd} {x : Rc}
theorem lg_new {c : Sup} (h : MayC c) : rdL c (cntS c) (newest [] (newS c)) = (⟨0, 1, 0, []⟩, 0) := by
  have hb := h.1; have hl := h.2.1
  refine rdL_new h (by rw [newest_nil]; exact newS_sup c) (s := ⟨[], 0, []⟩) (scRun_off (st_blank ?_))
  rw [newest_nil, Int.zero_emod]
  exact newS_log c _ (by omega) (by unfold cntS; omega)
abbrev n7 : Nat := cntS sm
abbrev D7 : Dd := ⟨newS sm, []⟩
theorem st1 : stepS n7 (r0 sm) D7 = ⟨⟨19, -1, zv, 0, 0⟩, 0, ⟨sm, 3, 0, 1, []⟩, D7⟩ := by
  have e := lg_new sm_may
  have el : lgS n7 sm D7 = ⟨0, 1, 0, []⟩ := by unfold lgS; exact congrArg Prod.fst e
  have e2 : (rdL sm n7 D7.rd).2 = 0 := congrArg Prod.snd e
  have hw : ¬ wrapS sm (lgS n7 sm D7) := by rw [el]; decide
  rw [step_read rfl (by unfold rdE; rw [if_pos e2, if_neg hw])]
  unfold readR
  rw [el]; rfl
theorem st2 : stepS n7 ⟨sm, 3, 0, 1, []⟩ D7 = ⟨⟨12, -1, zv, 0, 0⟩, 0, ⟨sm, 4, 0, 1, []⟩, D7⟩ := step_flush rfl
abbrev D8 : Dd := D7.wr 0 (encS (supN ⟨sm, 4, 0, 1, []⟩))
theorem st3 : stepS n7 ⟨sm, 4, 0, 1, []⟩ D7 = ⟨⟨16, -1, zv, 4, 0⟩, 0, ⟨sm, 5, 0, 1, []⟩, D8⟩ := step_mark rfl
theorem st4 : stepS n7 ⟨sm, 5, 0, 1, []⟩ D8 = ⟨⟨20, -1, zv, 4, 0⟩, 0, ⟨sm, 6, 0, 1, []⟩, D8.fls⟩ := step_end rfl
theorem st5 : stepS n7 ⟨sm, 6, 0, 1, []⟩ D8.fls = ⟨⟨0, 0, zv, 0, 0⟩, 190, ⟨sm, 6, 0, 1, []⟩, D8.fls⟩ := step_over rfl
theorem ok1 : (r0 sm).Ok n7 := start_ok sm_may (cntS_is sm_may)
theorem ok2 : (⟨sm, 3, 0, 1, []⟩ : Rc).Ok n7 := ⟨sm_may, cntS_is sm_may, by decide, by decide, ImsWf.nil, fun _ h => (by cases h), by decide, by decide, by decide, by decide, by decide, by decide, by decide, by decide⟩
theorem ok3 : (⟨sm, 4, 0, 1, []⟩ : Rc).Ok n7 := ok2.go (by decide) (by decide) (by decide)
theorem ok4 : (⟨sm, 5, 0, 1, []⟩ : Rc).Ok n7 := ok2.go (by decide) (by decide) (by decide)
theorem ok5 : (⟨sm, 6, 0, 1, []⟩ : Rc).Ok n7 := ok2.go (by decide) (by decide) (by decide)
theorem Fz.keeprow (h : Fz w0 w X) {r : Rw} (hr : r.val.length = 32) : ∃ w1 w2, (Instr.alloc 42 true (.tuple #[])).run Tryz.prog w = .ok (qp w.heap.size) w1 ∧ (Instr.storeAt 42 (qp w.heap.size) (.agg (rowc r).toArray)).run Tryz.prog w1 = .ok () w2 ∧ Fz w0 w2 (kb w.heap.size 42 (rowc r) :: X) := by
  obtain ⟨w1, e1, _, h1⟩ := h.rowbox
  obtain ⟨ha, _, _, hl⟩ := h1.atb (i := 0) rfl
  exact ⟨w1, _, e1, store_row ha (rowc_len (zs_len 32)) (rowc_len hr) (rowc_one r), hl (rowc r)⟩
theorem loadRow {W : World} {B : Nat} {r : Rw} (hr : r.val.length = 32) (h : LAt 42 W B (rowc r)) : (Instr.loadAt 42 (.pointer (some ⟨B, 0, none⟩))).run Tryz.prog W = .ok (.agg (rowc r).toArray) W := run_loadAt_mid W B 0 42 (rowc r) _ (LAt.range h) Tryz.underlying42 rfl (by rw [size_row, rowc_len hr])
theorem build_row4 (w : World) (k : Int) : (Instr.build 42 #[(0, .int .i64 k), (4, .int .i64 (-1))]).run Tryz.prog w = .ok (.agg (rowc ⟨k, -1, zv, 0, 0⟩).toArray) w := run_build w 42 _ _ (by kernel_rfl)
set_option maxHeartbeats 20000000 in
set_option maxRecDepth 100000 in
theorem fixed_is (ht : Tab w) : Calls Tryz.prog 6 #[] w fun e w' => e = .returned (.bool true) ∧ Below w.heap.size w w' := by
  have F0 : Hid (Fz w w []) := Fz.start w
  go_enter Tryz.func6, Tryz.ntmps6
  go_wp2_with fail
  refine (small_is _).mono ?_
  rintro e w1 ⟨rfl, hb⟩
  have F0' : Hid (Fz w w1 []) := F0.out.later hb
  clear hb F0
  go_wp2_with fail
  refine (hnew_good sm sm_may _ (F0'.out.tab ht)).mono ?_
  rintro e w2 ⟨p, rfl, hd, hb⟩
  have F1 : Hid (Fz w w2 [kd p n7 D7]) := F0'.out.newd hb hd
  clear hb hd F0'
  go_wp2_with fail
  refine (small_is _).mono ?_
  rintro e w3 ⟨rfl, hb⟩
  have F1' : Hid (Fz w w3 [kd p n7 D7]) := F1.out.later hb
  clear hb F1
  go_wp2_with fail
  refine (new_ok (j := 0) sm sm_may F1'.out rfl (cntS_is sm_may)).mono ?_
  rintro e w4 ⟨P, rfl, hd⟩
  have F2 : Hid (Fz w w4 [kr P (some p) (r0 sm), kd p n7 D7]) := hd
  clear hd F1'
  go_wp2_with fail
  refine (small_is _).mono ?_
  rintro e w5 ⟨rfl, hb⟩
  have F2' : Hid (Fz w w5 [kr P (some p) (r0 sm), kd p n7 D7]) := F2.out.later hb
  clear hb F2
  go_wp2_with fail
  refine (new_none sm F2'.out).mono ?_
  rintro e w6 ⟨rfl, hd⟩
  have G0 : Hid (Fz w w6 [kr P (some p) (r0 sm), kd p n7 D7]) := hd
  clear hd F2'
  go_wp2_with fail
  refine (state_at (i := 0) G0.out rfl).mono ?_
  rintro e w' ⟨rfl, hw'⟩
  rw [hw']
  clear hw' w'
  go_wp2_with fail
  refine (step_at (i := 0) (j := 1) ht G0.out rfl rfl (by decide) ok1 (by decide)).mono ?_
  rintro e v1 ⟨rfl, hd⟩
  rw [st1] at hd
  rw [st1]
  obtain ⟨a1, b1, hal, hst, hk⟩ := Fz.keeprow (r := ⟨19, -1, zv, 0, 0⟩) hd (zs_len 32)
  obtain ⟨R1, hR⟩ : ∃ B, v1.heap.size = B := ⟨_, rfl⟩
  rw [hR] at hal hst hk
  have HAL : Hid (_) := hal
  have HST : Hid (_) := hst
  have G1 : Hid (Fz w b1 [kb R1 42 (rowc ⟨19, -1, zv, 0, 0⟩), kr P (some p) ⟨sm, 3, 0, 1, []⟩, kd p n7 D7]) := hk
  clear hd hk hal hst hR G0
  go_wp2_with ((with_reducible refine at_ops ?_); (first | (refine wpList_alloc_is (by rfl) 42 rfl HAL.out ?_) | (refine wpList_store_is (by rfl) 42 rfl rfl rfl HST.out ?_)); simp only [Act.put, List.setIfInBounds_toArray, List.set_cons_zero, List.set_cons_succ])
  clear HAL HST
  go_wp2_with fail
  refine (step_at (i := 1) (j := 2) ht G1.out rfl rfl (by decide) ok2 (by decide)).mono ?_
  rintro e v2 ⟨rfl, hd⟩
  rw [st2] at hd
  rw [st2]
  obtain ⟨a2, b2, hal, hst, hk⟩ := Fz.keeprow (r := ⟨12, -1, zv, 0, 0⟩) hd (zs_len 32)
  obtain ⟨R2, hR⟩ : ∃ B, v2.heap.size = B := ⟨_, rfl⟩
  rw [hR] at hal hst hk
  have HAL : Hid (_) := hal
  have HST : Hid (_) := hst
  have G2 : Hid (Fz w b2 [kb R2 42 (rowc ⟨12, -1, zv, 0, 0⟩), kb R1 42 (rowc ⟨19, -1, zv, 0, 0⟩), kr P (some p) ⟨sm, 4, 0, 1, []⟩, kd p n7 D7]) := hk
  clear hd hk hal hst hR G1
  go_wp2_with ((with_reducible refine at_ops ?_); (first | (refine wpList_alloc_is (by rfl) 42 rfl HAL.out ?_) | (refine wpList_store_is (by rfl) 42 rfl rfl rfl HST.out ?_)); simp only [Act.put, List.setIfInBounds_toArray, List.set_cons_zero, List.set_cons_succ])
  clear HAL HST
  go_wp2_with fail
  refine (step_at (i := 2) (j := 3) ht G2.out rfl rfl (by decide) ok3 (by decide)).mono ?_
  rintro e v3 ⟨rfl, hd⟩
  rw [st3] at hd
  rw [st3]
  obtain ⟨a3, b3, hal, hst, hk⟩ := Fz.keeprow (r := ⟨16, -1, zv, 4, 0⟩) hd (zs_len 32)
  obtain ⟨R3, hR⟩ : ∃ B, v3.heap.size = B := ⟨_, rfl⟩
  rw [hR] at hal hst hk
  have HAL : Hid (_) := hal
  have HST : Hid (_) := hst
  have G3 : Hid (Fz w b3 [kb R3 42 (rowc ⟨16, -1, zv, 4, 0⟩), kb R2 42 (rowc ⟨12, -1, zv, 0, 0⟩), kb R1 42 (rowc ⟨19, -1, zv, 0, 0⟩), kr P (some p) ⟨sm, 5, 0, 1, []⟩, kd p n7 D8]) := hk
  clear hd hk hal hst hR G2
  go_wp2_with ((with_reducible refine at_ops ?_); (first | (refine wpList_alloc_is (by rfl) 42 rfl HAL.out ?_) | (refine wpList_store_is (by rfl) 42 rfl rfl rfl HST.out ?_)); simp only [Act.put, List.setIfInBounds_toArray, List.set_cons_zero, List.set_cons_succ])
  clear HAL HST
  go_wp2_with fail
  refine (step_at (i := 3) (j := 4) ht G3.out rfl rfl (by decide) ok4 (by decide)).mono ?_
  rintro e v4 ⟨rfl, hd⟩
  rw [st4] at hd
  rw [st4]
  obtain ⟨a4, b4, hal, hst, hk⟩ := Fz.keeprow (r := ⟨20, -1, zv, 4, 0⟩) hd (zs_len 32)
  obtain ⟨R4, hR⟩ : ∃ B, v4.heap.size = B := ⟨_, rfl⟩
  rw [hR] at hal hst hk
  have HAL : Hid (_) := hal
  have HST : Hid (_) := hst
  have G4 : Hid (Fz w b4 [kb R4 42 (rowc ⟨20, -1, zv, 4, 0⟩), kb R3 42 (rowc ⟨16, -1, zv, 4, 0⟩), kb R2 42 (rowc ⟨12, -1, zv, 0, 0⟩), kb R1 42 (rowc ⟨19, -1, zv, 0, 0⟩), kr P (some p) ⟨sm, 6, 0, 1, []⟩, kd p n7 D8.fls]) := hk
  clear hd hk hal hst hR G3
  go_wp2_with ((with_reducible refine at_ops ?_); (first | (refine wpList_alloc_is (by rfl) 42 rfl HAL.out ?_) | (refine wpList_store_is (by rfl) 42 rfl rfl rfl HST.out ?_)); simp only [Act.put, List.setIfInBounds_toArray, List.set_cons_zero, List.set_cons_succ])
  clear HAL HST
  go_wp2_with fail
  refine (step_at (i := 4) (j := 5) ht G4.out rfl rfl (by decide) ok5 (by decide)).mono ?_
  rintro e v5 ⟨rfl, hd⟩
  rw [st5] at hd
  rw [st5]
  obtain ⟨a5, b5, hal, hst, hk⟩ := Fz.keeprow (r := ⟨0, 0, zv, 0, 0⟩) hd (zs_len 32)
  obtain ⟨R5, hR⟩ : ∃ B, v5.heap.size = B := ⟨_, rfl⟩
  rw [hR] at hal hst hk
  have HAL : Hid (_) := hal
  have HST : Hid (_) := hst
  have G5 : Hid (Fz w b5 [kb R5 42 (rowc ⟨0, 0, zv, 0, 0⟩), kb R4 42 (rowc ⟨20, -1, zv, 4, 0⟩), kb R3 42 (rowc ⟨16, -1, zv, 4, 0⟩), kb R2 42 (rowc ⟨12, -1, zv, 0, 0⟩), kb R1 42 (rowc ⟨19, -1, zv, 0, 0⟩), kr P (some p) ⟨sm, 6, 0, 1, []⟩, kd p n7 D8.fls]) := hk
  clear hd hk hal hst hR G4
  go_wp2_with ((with_reducible refine at_ops ?_); (first | (refine wpList_alloc_is (by rfl) 42 rfl HAL.out ?_) | (refine wpList_store_is (by rfl) 42 rfl rfl rfl HST.out ?_)); simp only [Act.put, List.setIfInBounds_toArray, List.set_cons_zero, List.set_cons_succ])
  clear HAL HST
  go_wp2_with fail
  refine (result_at (i := 5) G5.out rfl).mono ?_
  rintro e u0 ⟨rfl, hd⟩
  have K0 : Hid (Fz w u0 [kb R5 42 (rowc ⟨0, 0, zv, 0, 0⟩), kb R4 42 (rowc ⟨20, -1, zv, 4, 0⟩), kb R3 42 (rowc ⟨16, -1, zv, 4, 0⟩), kb R2 42 (rowc ⟨12, -1, zv, 0, 0⟩), kb R1 42 (rowc ⟨19, -1, zv, 0, 0⟩), kr P (some p) ⟨sm, 6, 0, 1, []⟩, kd p n7 D8.fls]) := hd
  clear hd G5
  have HLD : Hid (_) := loadRow (zs_len 32) (K0.out.atb (i := 4) rfl).1
  have HBD : Hid (_) := build_row4 u0 19
  go_wp2_with ((with_reducible refine at_ops ?_); (first | (refine wpList_load_is (by rfl) 42 rfl rfl HLD.out ?_) | (refine wpList_build_is (vs := [(0, .int .i64 19), (4, .int .i64 (-1))]) (by rfl) 42 rfl (by rfl) HBD.out ?_)); simp only [Act.put, List.setIfInBounds_toArray, List.set_cons_zero, List.set_cons_succ])
  refine (sameRow_eq ⟨19, -1, zv, 0, 0⟩ (zs_len 32) _).mono ?_
  rintro e u1 ⟨rfl, hb⟩
  have K1 : Hid (Fz w u1 [kb R5 42 (rowc ⟨0, 0, zv, 0, 0⟩), kb R4 42 (rowc ⟨20, -1, zv, 4, 0⟩), kb R3 42 (rowc ⟨16, -1, zv, 4, 0⟩), kb R2 42 (rowc ⟨12, -1, zv, 0, 0⟩), kb R1 42 (rowc ⟨19, -1, zv, 0, 0⟩), kr P (some p) ⟨sm, 6, 0, 1, []⟩, kd p n7 D8.fls]) := K0.out.later hb
  clear hb K0 HLD HBD
  have HLD : Hid (_) := loadRow (zs_len 32) (K1.out.atb (i := 3) rfl).1
  have HBD : Hid (_) := build_row4 u1 12
  go_wp2_with ((with_reducible refine at_ops ?_); (first | (refine wpList_load_is (by rfl) 42 rfl rfl HLD.out ?_) | (refine wpList_build_is (vs := [(0, .int .i64 12), (4, .int .i64 (-1))]) (by rfl) 42 rfl (by rfl) HBD.out ?_)); simp only [Act.put, List.setIfInBounds_toArray, List.set_cons_zero, List.set_cons_succ])
  refine (sameRow_eq ⟨12, -1, zv, 0, 0⟩ (zs_len 32) _).mono ?_
  rintro e u2 ⟨rfl, hb⟩
  have K2 : Hid (Fz w u2 [kb R5 42 (rowc ⟨0, 0, zv, 0, 0⟩), kb R4 42 (rowc ⟨20, -1, zv, 4, 0⟩), kb R3 42 (rowc ⟨16, -1, zv, 4, 0⟩), kb R2 42 (rowc ⟨12, -1, zv, 0, 0⟩), kb R1 42 (rowc ⟨19, -1, zv, 0, 0⟩), kr P (some p) ⟨sm, 6, 0, 1, []⟩, kd p n7 D8.fls]) := K1.out.later hb
  clear hb K1 HLD HBD
  have HLD : Hid (_) := loadRow (zs_len 32) (K2.out.atb (i := 2) rfl).1
  have HBD : Hid (_) := build_row6 u2 16 4
  go_wp2_with ((with_reducible refine at_ops ?_); (first | (refine wpList_load_is (by rfl) 42 rfl rfl HLD.out ?_) | (refine wpList_build_is (vs := [(0, .int .i64 16), (4, .int .i64 (-1)), (6, .int .u64 4)]) (by rfl) 42 rfl (by rfl) HBD.out ?_)); simp only [Act.put, List.setIfInBounds_toArray, List.set_cons_zero, List.set_cons_succ])
  refine (sameRow_eq ⟨16, -1, zv, 4, 0⟩ (zs_len 32) _).mono ?_
  rintro e u3 ⟨rfl, hb⟩
  have K3 : Hid (Fz w u3 [kb R5 42 (rowc ⟨0, 0, zv, 0, 0⟩), kb R4 42 (rowc ⟨20, -1, zv, 4, 0⟩), kb R3 42 (rowc ⟨16, -1, zv, 4, 0⟩), kb R2 42 (rowc ⟨12, -1, zv, 0, 0⟩), kb R1 42 (rowc ⟨19, -1, zv, 0, 0⟩), kr P (some p) ⟨sm, 6, 0, 1, []⟩, kd p n7 D8.fls]) := K2.out.later hb
  clear hb K2 HLD HBD
  have HLD : Hid (_) := loadRow (zs_len 32) (K3.out.atb (i := 1) rfl).1
  have HBD : Hid (_) := build_row6 u3 20 4
  go_wp2_with ((with_reducible refine at_ops ?_); (first | (refine wpList_load_is (by rfl) 42 rfl rfl HLD.out ?_) | (refine wpList_build_is (vs := [(0, .int .i64 20), (4, .int .i64 (-1)), (6, .int .u64 4)]) (by rfl) 42 rfl (by rfl) HBD.out ?_)); simp only [Act.put, List.setIfInBounds_toArray, List.set_cons_zero, List.set_cons_succ])
  refine (sameRow_eq ⟨20, -1, zv, 4, 0⟩ (zs_len 32) _).mono ?_
  rintro e u4 ⟨rfl, hb⟩
  have K4 : Hid (Fz w u4 [kb R5 42 (rowc ⟨0, 0, zv, 0, 0⟩), kb R4 42 (rowc ⟨20, -1, zv, 4, 0⟩), kb R3 42 (rowc ⟨16, -1, zv, 4, 0⟩), kb R2 42 (rowc ⟨12, -1, zv, 0, 0⟩), kb R1 42 (rowc ⟨19, -1, zv, 0, 0⟩), kr P (some p) ⟨sm, 6, 0, 1, []⟩, kd p n7 D8.fls]) := K3.out.later hb
  clear hb K3 HLD HBD
  go_wp2_with fail
  refine (state_at (i := 5) K4.out rfl).mono ?_
  rintro e w' ⟨rfl, hw'⟩
  rw [hw']
  clear hw' w'
  go_wp2_with fail
  refine (left_at (i := 5) K4.out rfl (by decide)).mono ?_
  rintro e u5 ⟨v, rfl, hd⟩
  obtain ⟨t, G, rfl, ho, -⟩ := hd.at (i := 0) rfl
  obtain ⟨av, cv, ev, -⟩ := IOwn.in ho ImsWf.nil
  have HZ : Hid (Below w.heap.size w u5) := hd.below
  subst ev
  clear ho hd K4
  go_wp2
  go_ret
  exact ⟨rfl, HZ.out⟩
end
end Go.Proofs.YtdadpepfpiimgaaGreatDoor.Q
namespace Go.Proofs.YtdadpepfpiimgaaGreatDoor.Q
open Go.RowKit
open Go.ChangeShapes Go.WideShapes Go.ChangeAt Go.Deep
theorem ownK : ownKnob Tryz.prog.godebug = none := by kernel_rfl
theorem gHalves : Tryz.prog.globalNamed "wicket/sum.halves" = some 1 := by kernel_rfl
theorem tHalves : (Tryz.prog.globals[1]?).map (·.type) = some 238 := by kernel_rfl
theorem gFields : Tryz.prog.globalNamed "wicket/super.fields" = some 0 := by kernel_rfl
theorem tFields : (Tryz.prog.globals[0]?).map (·.type) = some 175 := by kernel_rfl
theorem cells38 : Tryz.prog.cellsOf 178 = 1 := by kernel_rfl
theorem cells78 : Tryz.prog.cellsOf 238 = 16 := by kernel_rfl
theorem cells62 : Tryz.prog.cellsOf 174 = 2 := by kernel_rfl
theorem cells3 : Tryz.prog.cellsOf 3 = 1 := by kernel_rfl
def zs16 : List Int := [0, 498536548, 997073096, 651767980, 1994146192, 1802195444, 1303535960, 1342533948, 3988292384, 4027552580, 3604390888, 3412177804, 2607071920, 2262029012, 2685067896, 3183342108]
theorem zs16_table : ∀ i, i < 16 → zs16[i]? = some ((table.getD i 0 : Nat) : Int) := by decide
abbrev laidS : List (String × DataW Unit) := [("wicket/sum.halves", Rows.laid_wicket_sum_halves), ("wicket/super.fields", Rows.laid_wicket_super_fields)]
theorem door_met (os : Os) (args : Array Value) : laidMetH Tryz.prog laidS ((World.doorLaid Tryz.prog 400 os).forCall (fun _ _ => 0) ⟨#[], args, []⟩).memory :=
  laidMetH_of_parts3 (fuel := 8) (laidMet_of_run' 8 (by kernel_rfl) (by kernel_rfl)) (by kernel_rfl) (by kernel_rfl)
def pairD {H : Type} (a k : Nat) : DataW H := .agg [.lit (.int .i64 (a : Int)), .lit (.int .i64 (k : Int))]
theorem drop_one {α : Type} (l : List α) (i : Nat) (v : α) (h : (l.drop i).take 1 = [v]) : l[i]? = some v := by
  have e : ((l.drop i).take 1)[0]? = some v := by rw [h]; rfl
  rw [List.getElem?_take, if_pos (by omega), List.getElem?_drop] at e
  exact e
theorem pair_of {H : Type} {enc : TypeId × Value → H} {W : World} {b : Nat} {sp : Nat → Bool} {held : Bool} {m : Nat} {cs : List Value} {p : List MemPlace} {a k : Nat} (h : DataW.trod enc Tryz.prog W b sp held m 174 cs = some (pairD a k, p)) :
    cs[0]? = some (.int .i64 (a : Int)) ∧ cs[1]? = some (.int .i64 (k : Int)) := by
  obtain ⟨xs, n, _, e, _, hxl, hg⟩ := DataW.trod_struct Tryz.underlying174 h
  have hxl2 : xs.length = 2 := hxl
  have g0 : DataW.trod enc Tryz.prog W b sp held n 3 ((cs.drop 0).take (Tryz.prog.cellsOf 3)) = xs[0]? := hg 0 _ rfl
  have g1 : DataW.trod enc Tryz.prog W b sp held n 3 ((cs.drop 1).take (Tryz.prog.cellsOf 3)) = xs[1]? := hg 1 _ rfl
  rw [cells3, List.getElem?_eq_getElem (by omega)] at g0 g1
  obtain ⟨a0, e0, d0, _⟩ := DataW.trod_int Tryz.underlying3 g0
  obtain ⟨a1, e1, d1, _⟩ := DataW.trod_int Tryz.underlying3 g1
  have f0 := drop_one _ _ _ e0
  have f1 := drop_one _ _ _ e1
  have ed := congrArg Prod.fst e
  match xs, hxl2 with
  | [y0, y1], _ =>
    simp only [List.getElem_cons_zero, List.getElem_cons_succ] at d0 d1
    rw [d0, d1] at ed
    simp [pairD] at ed
    rw [f0, f1, ed.1, ed.2]
    exact ⟨rfl, rfl⟩
def fdata {H : Type} : List (DataW H) := [pairD 6 1, pairD 8 1, pairD 9 1, pairD 10 1, pairD 11 1, pairD 12 1, pairD 16 8, pairD 24 8]
theorem fdata_at {H : Type} (i : Nat) (h : i < 8) : (fdata (H := H))[i]? = some (pairD (fa.getD i 0) (fw.getD i 0)) := by
  have : i = 0 ∨ i = 1 ∨ i = 2 ∨ i = 3 ∨ i = 4 ∨ i = 5 ∨ i = 6 ∨ i = 7 := by omega
  rcases this with rfl | rfl | rfl | rfl | rfl | rfl | rfl | rfl <;> rfl
theorem flds_of {H : Type} {enc : TypeId × Value → H} {W : World} {b : Nat} {sp : Nat → Bool} {held : Bool} {m : Nat} {cs : List Value} {p : List MemPlace} (h : DataW.trod enc Tryz.prog W b sp held m 175 cs = some (.agg fdata, p)) (i : Nat) (hi : i < 8) :
    cs[2 * i]? = some (.int .i64 ((fa.getD i 0 : Nat) : Int)) ∧ cs[2 * i + 1]? = some (.int .i64 ((fw.getD i 0 : Nat) : Int)) := by
  obtain ⟨xs, m', _, e, _, hxl, hf⟩ := DataW.trod_array Tryz.underlying175 h
  have e1 : fdata = xs.map (·.1) := by
    have := congrArg Prod.fst e
    injection this
  have g := hf i hi
  rw [cells62] at g
  have hx : (xs.map (·.1))[i]? = some (pairD (fa.getD i 0) (fw.getD i 0)) := by rw [← e1]; exact fdata_at i hi
  rw [List.getElem?_map] at hx
  obtain ⟨y, hy, hy1⟩ := Option.map_eq_some_iff.1 hx
  rw [hy] at g
  obtain ⟨d, pp⟩ := y
  simp only at hy1
  subst hy1
  have hp := pair_of g
  rw [List.getElem?_take, if_pos (by omega), List.getElem?_drop, List.getElem?_take, if_pos (by omega), List.getElem?_drop] at hp
  rw [show i * 2 + 0 = 2 * i by omega, show i * 2 + 1 = 2 * i + 1 by omega] at hp
  exact hp
theorem tab_of {W : World} (h : laidMetH Tryz.prog laidS W) : Tab W := by
  rw [MakeChecks.laidMetH_plain _ _ _ (by kernel_rfl)] at h
  have h' : laidMet Tryz.prog [("wicket/sum.halves", Lib.tabData .u32 zs16), ("wicket/super.fields", .agg fdata)] W := h
  refine ⟨?_, ?_⟩
  · have hT := Lib.tabIs_of_head gHalves tHalves Tryz.underlying238 Tryz.underlying178 cells38 cells78 h'
    intro i hi
    rw [World.var?_cell gHalves hT i]
    have := zs16_table i hi
    simp [this]
  · obtain ⟨ps, ⟨g', t', cs, fuel, p, q, hg', ht', hvar, hd, _, _⟩, _⟩ := h'.tail
    obtain rfl := Option.some.inj (gFields.symm.trans hg')
    obtain rfl := Option.some.inj (tFields.symm.trans ht')
    intro i hi
    have hf := flds_of hd i hi
    rw [World.var?_cell gFields hvar (2 * i), World.var?_cell gFields hvar (2 * i + 1)]
    simpa using hf
end Go.Proofs.YtdadpepfpiimgaaGreatDoor.Q
namespace Go.Proofs.YtdadpepfpiimgaaGreatDoor.Q
open Go.RowKit
section
variable {w0 w w' : World} {X : List Kd} {i j P p n : Nat}
def Th.byt (v : Value) (bs : List Int) : Th := ⟨fun w _ => w.ownsRow 0 5 1 v bs.length (U8 bs), fun b => v.ownBlock = some b, fun _ _ b h hb => (World.ownsRow.lt h b hb).2, fun _ _ _ _ _ h hk hf _ _ => own_same h fun k e => hk.block k (World.ownsRow.lt h k e).2 (hf k e)⟩
def ky (v : Value) (bs : List Int) : Kd := fun t => t = Th.byt v bs
def fil (xs : List Int) : List Int := (xs ++ List.replicate 64 0).take 64
theorem wpList_append2_is {P : Program} {ops : Array Oper} {Q : Exit → Act → World → Prop} {rest : List Oper} {o : Oper} {a : Act} (hgd : Region.wanted o (yielded ops a.tmps) = true) {s x : Operand} {t t2 ty : TypeId} (ho : o.op = .call { callee := .builtin .append, args := #[s, x], argTypes := #[t, t2] }) (hty : o.type = ty) {u1 u2 v : Value} (hs : a.eval s = u1) (hx : a.eval x = u2) (hrun : (Builtin.append_ #[t, t2] ty #[u1, u2]).run P w = .ok v w') (h : wpList P ops Q rest (a.put o.dst v) w') : wpList P ops Q (o :: rest) a w :=
  wpList_val hgd (by subst hty; simp [execOp, ho, resolve, invoke, builtin, hs, hx, hrun, Result.andThen]) h
theorem app_bytes {a : Option Addr} {m c : Nat} {xs : List Int} (h : BIn w a m xs) (hn : a = none → m = 0 ∧ c = 0) (hm : m + 64 ≤ 140737488355328) : ∃ g cp w1, (Builtin.append_ #[27, 27] 27 #[.slice (some ⟨w.heap.size, 0, none⟩) 0 0, .slice a m c]).run Tryz.prog (w.alloc (.cells #[] 5)) = .ok (.slice (some ⟨g, 0, none⟩) m cp) w1 ∧ w1.ownsRow w.heap.size 5 1 (.slice (some ⟨g, 0, none⟩) m cp) m (U8 xs) ∧ Below w.heap.size w w1 := by
  obtain ⟨i0, hi, hz0, hz1, hz2⟩ := info_parts info5
  have hE : (w.alloc (.cells #[] 5)).ownsRow w.heap.size 5 1 (.slice (some ⟨w.heap.size, 0, none⟩) 0 0) 0 [] := World.ownsRow_made w #[] 0 (Nat.le_refl _) (Nat.zero_le _) rfl
  have hX := h.later (below_alloc w (.cells #[] 5))
  cases a with
  | none =>
    obtain ⟨rfl, rfl⟩ := hn rfl
    have hx : xs = [] := List.length_eq_zero_iff.1 h.len
    subst hx
    exact ⟨_, _, _, run_append_owned_none (P := Tryz.prog) _ w.heap.size 27 27 5 i0 1 Tryz.underlying27 hi _ 0 [] hE, hE, below_alloc w _⟩
  | some ad =>
    obtain ⟨v', w1, hr, ho, hg, h4⟩ := run_append_own (P := Tryz.prog) (w.alloc (.cells #[] 5)) w.heap.size 27 27 5 i0 _ 1 1 Tryz.underlying27 hi hz0 hz1 hz2 rfl (by decide) _ 0 [] hE ad m c (U8 xs) (by rw [U8_length, h.len]; omega) hX.news (ones_u8 _) (by unfold maxLen; omega) (by omega) (by simp)
    rw [Nat.zero_add, List.nil_append] at ho
    have hb : Below w.heap.size w w1 := ((Below.refl _ _).alloc (Nat.le_refl _) _).grown hg (by simp) (fun k hk => by cases hk; exact Nat.le_refl _)
    obtain ⟨p, cap, rfl, hpn, hsm⟩ := own_slice ho
    cases p with
    | none =>
      obtain ⟨e1, e2⟩ := hpn rfl
      subst e1 e2
      have := h4.1 rfl
      simp at this
    | some ad' =>
      obtain ⟨g, rfl⟩ := hsm ad' rfl
      exact ⟨g, cap, w1, hr, ho, hb⟩
theorem app_zeros {B g m c : Nat} {xs : List Int} (h : w.ownsRow B 5 1 (.slice (some ⟨g, 0, none⟩) m c) m (U8 xs)) (hB : B ≤ w.heap.size) (hm : m + 64 ≤ 140737488355328) : ∃ g2 c2 w1, (Builtin.append_ #[27, 3] 27 #[.slice (some ⟨g, 0, none⟩) m c, .int .i64 64]).run Tryz.prog w = .ok (.slice (some ⟨g2, 0, none⟩) (m + 64) c2) w1 ∧ w1.ownsRow B 5 1 (.slice (some ⟨g2, 0, none⟩) (m + 64) c2) (m + 64) (U8 (xs ++ List.replicate 64 0)) ∧ m + 64 ≤ c2 ∧ w.grownBy w1 (some g) := by
  obtain ⟨i0, hi, hz0, hz1, hz2⟩ := info_parts info5
  obtain ⟨v, w1, hr, ho, hg⟩ := run_append_zeros_own (P := Tryz.prog) w B 27 3 27 5 i0 (.int .u8 0) 1 .i64 .i64 Tryz.underlying27 Tryz.underlying3 hi hz0 hz1 hz2 rfl rfl g m c (U8 xs) h 64 (by omega) (by unfold maxLen; omega) (by omega) hB
  obtain ⟨g2, c2, rfl, hc⟩ := own_shape ho (by omega)
  refine ⟨g2, c2, w1, hr, ?_, hc, hg⟩
  rw [show U8 (xs ++ List.replicate 64 0) = U8 xs ++ List.replicate 64 (Value.int .u8 0) by simp [U8]]
  exact ho
theorem fill_run {a : Option Addr} {m c : Nat} {xs : List Int} (h : BIn w a m xs) (hn : a = none → m = 0 ∧ c = 0) (hm : m + 64 ≤ 140737488355328) : ∃ g5 c5 w5 g9 c9 w9, (Builtin.append_ #[27, 27] 27 #[.slice (some ⟨w.heap.size, 0, none⟩) 0 0, .slice a m c]).run Tryz.prog (w.alloc (.cells #[] 5)) = .ok (.slice (some ⟨g5, 0, none⟩) m c5) w5 ∧ (Builtin.append_ #[27, 3] 27 #[.slice (some ⟨g5, 0, none⟩) m c5, .int .i64 64]).run Tryz.prog w5 = .ok (.slice (some ⟨g9, 0, none⟩) (m + 64) c9) w9 ∧ m + 64 ≤ c9 ∧ BIn w9 (some ⟨g9, 0, none⟩) 64 (fil xs) ∧ w.heap.size ≤ g9 ∧ Below w.heap.size w w9 := by
  obtain ⟨g5, c5, w5, r5, o5, b5⟩ := app_bytes h hn hm
  obtain ⟨g9, c9, w9, r9, o9, hc, hg⟩ := app_zeros o5 b5.size hm
  refine ⟨g5, c5, w5, g9, c9, w9, r5, r9, hc, ?_, (World.ownsRow.lt o9 g9 rfl).1, b5.grown hg b5.size (fun k hk => by cases hk; exact (World.ownsRow.lt o5 _ rfl).1)⟩
  exact BIn.take (n := m + 64) (own_bin (base := w.heap.size) (cap := c9) o9 (h.byte.append (fun q hq => by rw [List.eq_of_mem_replicate hq]; decide))) 64 (by omega)
end
end Go.Proofs.YtdadpepfpiimgaaGreatDoor.Q
