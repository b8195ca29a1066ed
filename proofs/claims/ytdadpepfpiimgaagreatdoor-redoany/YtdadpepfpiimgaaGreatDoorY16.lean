import Derived.Test.YtdadpepfpiimgaaGreatDoorY14
import Derived.Test.YtdadpepfpiimgaaGreatDoorY15
set_option maxHeartbeats 20000000
set_option maxRecDepth 100000
namespace Go.Proofs.YtdadpepfpiimgaaGreatDoor.Q
open Go.RowKit
section
variable {w0 w : World} {X : List Kd} {i j P p n : Nat} {q : Option Nat} {D : Dd} {x : Rc}
theorem Fz.carried (h : Fz w0 w X) (hi : X[i]? = some (kr P q x)) {k : Im} {r : List Im} (hl : x.left = k :: r) (hs : x.st = 2) : ∃ b o c, w.cell? ⟨P, 9, none⟩ = some (.slice (some ⟨b, o, none⟩) (r.length + 1) c) ∧ MIn w (some ⟨b, o, none⟩) (r.length + 1) (k :: r) ∧ r.length + 1 ≤ c ∧ c ≤ maxLen ∧ w.frozen? ⟨P, 9, none⟩ = false ∧ ∀ u, (u = .slice (some ⟨b, o + 33, none⟩) r.length (c - 1) ∨ (c = 1 ∧ u = .slice (some ⟨b, o, none⟩) r.length 0)) → ∃ a cc, u = .slice a r.length cc ∧ (w.setCell ⟨P, 9, none⟩ u).heap[P]? = some (.cells (pcl q { x with left := r } u).toArray 112 (0, 0)) ∧ Fz w0 ((w.setCell ⟨P, 9, none⟩ u).setRow P ((pcl q { x with left := r } u).set 6 (.int .i64 (aftS r))).toArray) (X.set i (kr P q { x with st := aftS r, left := r })) := by
  obtain ⟨G, v, hp, hg, hL⟩ := h.atr hi
  have hlf := hp.lf
  rw [hl] at hlf
  obtain ⟨b, o, c, e, hm, h1, h2, hgb, hlf'⟩ := hlf.tl
  have c9 := hp.c9
  rw [e] at c9
  refine ⟨b, o, c, c9, hm, h1, h2, hp.frozen 9, fun u hu => ?_⟩
  have e1 : w.setCell ⟨P, 9, none⟩ u = w.setRow P (pcl q { x with left := r } u).toArray := by
    rw [setCell_eq_setRow w P 9 _ 112 (0, 0) _ hp.str]; congr 1
  have s1 : (w.setRow P (pcl q { x with left := r } u).toArray).heap[P]? = some (.cells (pcl q { x with left := r } u).toArray 112 (0, 0)) := setRow_heap w P _ _ 112 (0, 0) hp.str
  obtain ⟨a, cc, eu, hlu⟩ : ∃ a cc, u = .slice a r.length cc ∧ Lf w G u r := by
    rcases hu with hu | ⟨hc, hu⟩
    · exact ⟨_, _, hu, by rw [hu]; exact hlf'⟩
    · have hr : r = [] := List.length_eq_zero_iff.1 (by omega)
      exact ⟨_, _, hu, by rw [hu, hr]; exact ⟨_, _, rfl, MIn.nil _ _, Nat.le_refl _, Nat.zero_le _, fun h => absurd h (Nat.lt_irrefl 0)⟩⟩
  refine ⟨a, cc, eu, by rw [e1]; exact s1, ?_⟩
  rw [e1, setRow_setRow]
  have ho := aftS_or r
  have e2 : (pcl q { x with left := r } u).set 6 (.int .i64 (aftS r)) = pcl q { x with st := aftS r, left := r } u := (pcl_st (x := { x with left := r }) (by show x.st ≠ 1; omega) (by omega)).symm
  rw [e2]
  exact hL _ G q _ _ ⟨setRow_heap w P _ _ 112 (0, 0) hp.str, hlu.keep (keptRow w P _) (fun g hg2 _ e => hg (by have e : g = P := e; rw [← e]; exact hg2)) (fun _ a => a)⟩ (keptRow w P _) (fun _ a => a) (fun _ a => .inl a)
def Pv (P : Nat) (q : Option Nat) (x : Rc) (W : World) : Prop := ∃ G v, PAt W G P q x v
theorem Pv.c0 {W : World} (h : Pv P (some p) x W) : W.cell? ⟨P, 0, none⟩ = some (qp p) := by obtain ⟨G, v, h⟩ := h; exact h.c0
theorem Pv.c2 {W : World} (h : Pv P q x W) : W.cell? ⟨P, 2, none⟩ = some (.int .i64 x.c.lc) := by obtain ⟨G, v, h⟩ := h; exact h.c2
theorem Pv.c7 {W : World} (h : Pv P q x W) : W.cell? ⟨P, 7, none⟩ = some (.int .u64 (tlS x)) := by obtain ⟨G, v, h⟩ := h; exact h.c7
theorem Pv.c8 {W : World} (h : Pv P q x W) : W.cell? ⟨P, 8, none⟩ = some (.int .u64 (lfS x)) := by obtain ⟨G, v, h⟩ := h; exact h.c8
theorem Pv.loadC {W : World} (h : Pv P q x W) : (Instr.loadAt 23 (.pointer (some ⟨P, 1, none⟩))).run Tryz.prog W = .ok (.agg (ccells x.c).toArray) W := by obtain ⟨G, v, h⟩ := h; exact h.loadC
theorem Fz.pv (h : Fz w0 w X) (hi : X[i]? = some (kr P q x)) : Pv P q x w := by obtain ⟨G, v, hp, -⟩ := h.atr hi; exact ⟨G, v, hp⟩
theorem img0 {W : World} {B : Nat} {k : Im} (h : LAt 155 W B (icells k)) : W.cell? ⟨B, 0, none⟩ = some (.int .i64 k.b) := by rw [LAt.cell h 0]; rfl
set_option maxHeartbeats 2000000 in
set_option maxRecDepth 100000 in
theorem carry_at (ht : Tab w0) (h : Fz w0 w X) (hi : X[i]? = some (kr P (some p) x)) (hj : X[j]? = some (kd p n D)) (hij : i ≠ j) (ok : x.Ok n) (hk : D.ws.length ≤ 100000) (hs : x.st = 2) {k : Im} {r : List Im} (hl : x.left = k :: r) : Calls Tryz.prog 37 #[qp P] w fun e w' => e = .returned (.tuple #[.agg (rowc ⟨15, k.b, k.v, 0, 0⟩).toArray, .int .i64 0]) ∧ Fz w0 w' ((X.set j (kd p n (D.wr (1 + k.b).toNat (homeS k.b k.v)))).set i (kr P (some p) { x with st := aftS r, left := r })) := by
  have HW : Hid (k.Wf) := ok.wf k (by rw [hl]; exact List.mem_cons.2 (.inl rfl))
  have HK32 : Hid (k.v.length = 32) := HW.out.len
  have HRB : Hid (rbS x.c n k.b = 0) := by
    have a := ok.blk k (by rw [hl]; exact List.mem_cons.2 (.inl rfl))
    exact rbS_ok (rfS_ok ok.mc ok.n) a
  obtain ⟨w1, hal, hb1, h1⟩ := h.rowbox
  generalize w.heap.size = b0 at h1 hal hb1
  have HAL : Hid (_) := hal
  obtain ⟨b, o, c, c9, hm, hc1, hc2, -⟩ := Fz.carried (i := i + 1) h1 hi hl hs
  have HLD : Hid (_) := hm.load (k := 0) rfl
  rw [Nat.zero_mul, Nat.add_zero] at HLD
  have hbm : b < w1.heap.size := mIn_blt hm (by omega) rfl
  obtain ⟨E, hE⟩ : ∃ E, w1.heap.size = E := ⟨_, rfl⟩
  obtain ⟨w2, hw2⟩ : ∃ W, w1.alloc (.cells (icells k).toArray 155) = W := ⟨_, rfl⟩
  have HAE : Hid (_) := allocI w1
  have HSE : Hid (_) := store_newI w1 k HK32.out
  rw [hw2, hE] at HSE
  rw [hE] at HAE
  have h2 : Fz w0 w2 (kb E 155 (icells k) :: kb b0 42 row0 :: X) := by rw [← hw2, ← hE]; exact h1.newa (icells k) 155
  have H3 : Hid (Fz w0 w2.drew (kb E 155 (icells k) :: kb b0 42 row0 :: X)) := h2.later (below_drawn 1)
  clear h hal h1 hm h2 hw2 hE hb1
  go_enter Tryz.func37, Tryz.ntmps37
  go_wp2_with ((with_reducible refine at_ops ?_); (first | (refine wpList_alloc_is (by rfl) 42 rfl HAL.out ?_) | (refine wpList_load_is (by rfl) 155 rfl rfl HLD.out ?_) | (refine wpList_alloc_is (by rfl) 155 rfl HAE.out ?_) | (refine wpList_store_is (by rfl) 155 rfl rfl rfl HSE.out ?_)); simp only [Act.put, List.setIfInBounds_toArray, List.set_cons_zero, List.set_cons_succ])
  have H4 : Hid (Fz w0 w2.drew (kb E 155 (icells k) :: kb b0 42 row0 :: X)) := H3.out
  clear H3 HAL HLD HAE HSE c9
  have HI5 : Hid ((kb E 155 (icells k) :: kb b0 42 row0 :: X.set j (kd p n (D.wr (1 + k.b).toNat (homeS k.b k.v))))[i + 2]? = some (kr P (some p) x)) := by
    show (X.set j _)[i]? = _
    rw [List.getElem?_set_ne (Ne.symm hij)]; exact hi
  refine wp_region_noPanic ?_
  refine wp_region_held_drew (S := fun W => Pv P (some p) x W ∧ LAt 155 W E (icells k)) (by kernel_rfl) ⟨H4.out.pv (i := i + 2) hi, (H4.out.atb (i := 0) rfl).1⟩ (fun hHeld => ?_)
  generalize w2.drew = w4 at *
  refine tk 0 hHeld ?_
  refine tk 1 hHeld ?_
  refine tk 2 hHeld ?_
  refine tkl 3 hHeld (fun _ s => s.1.c0) ?_
  refine tk 4 hHeld ?_
  refine tk 5 hHeld ?_
  refine tk 6 hHeld ?_
  refine tkm 7 hHeld (fun _ s => s.1.loadC) ?_
  refine tk 8 hHeld ?_
  refine tkl 9 hHeld (fun _ s => img0 s.2) ?_
  refine tk 10 hHeld ?_
  refine tkm 11 hHeld (fun _ s => LAt.loadIv s.2 HK32.out) ?_
  refine tkr 12 fun Kc hKc => ?_
  go_simp
  refine (p_save (j := j + 2) ht H4.out hj hk HW.out HRB.out).mono ?_
  rintro e w5 ⟨rfl, h5⟩
  have H5 : Hid (Fz w0 w5 (kb E 155 (icells k) :: kb b0 42 row0 :: X.set j (kd p n (D.wr (1 + k.b).toNat (homeS k.b k.v))))) := h5
  clear h5 H4
  go_simp
  refine hKc.out _ _ ⟨H5.out.pv (i := i + 2) HI5.out, (H5.out.atb (i := 0) rfl).1⟩ fun hHeld => ?_
  clear hKc Kc
  refine tk 13 hHeld ?_
  clear hHeld
  refine wpAnyH_done (by kernel_rfl) (NoPanic.normal ?_) _
  obtain ⟨b, o, c, c9, hm, hc1, hc2, f9, hC⟩ := Fz.carried (i := i + 2) H5.out HI5.out hl hs
  have hcI : (0 : Int) ≤ r.length := by omega
  have HC : Hid (_) := hC
  clear hC H5 hm hj hi HI5 hHeld
  go_wp2_with fail
  · obtain ⟨a, cc, eu, hs9, h6⟩ := HC.out (.slice (some ⟨b, o, none⟩) r.length 0) (.inr ⟨‹c = 1›, rfl⟩)
    have HEU : Hid (_) := eu
    have H6 : Hid (Fz w0 ((w5.setCell ⟨P, 9, none⟩ (.slice (some ⟨b, o, none⟩) r.length 0)).setRow P ((pcl (some p) { x with left := r } (.slice (some ⟨b, o, none⟩) r.length 0)).set 6 (.int .i64 (aftS r))).toArray) (kb E 155 (icells k) :: kb b0 42 row0 :: (X.set j (kd p n (D.wr (1 + k.b).toNat (homeS k.b k.v)))).set i (kr P (some p) { x with st := aftS r, left := r }))) := h6
    clear h6 eu HC
    clear HEU
    refine (homeward_raw hs9).mono ?_
    rintro e w7 ⟨⟨y, rfl⟩, hw7⟩
    have H7 : Hid (Fz w0 w7 (kb E 155 (icells k) :: kb b0 42 row0 :: (X.set j (kd p n (D.wr (1 + k.b).toNat (homeS k.b k.v)))).set i (kr P (some p) { x with st := aftS r, left := r }))) := by rw [hw7]; exact H6.out
    have lE := (H7.out.atb (i := 0) rfl).1
    have i0 := img0 lE
    have HIV : Hid (_) := LAt.loadIv lE HK32.out
    have HBD : Hid (_) := build_row45 w7 15 k.b k.v HK32.out
    obtain ⟨wz, hst, hlz, hfz⟩ := (Fz.pop H7.out).laid (r := ⟨15, k.b, k.v, 0, 0⟩) HK32.out
    have HST : Hid (_) := hst
    have HLz : Hid (_) := hlz
    have HFz : Hid (_) := hfz
    clear hst hlz hfz lE H7 H6 hw7 hs9
    go_wp2_with ((with_reducible refine at_ops ?_); (first | (refine wpList_load_is (by rfl) 39 rfl rfl HIV.out ?_) | (refine wpList_build_is (vs := [(0, .int .i64 15), (4, .int .i64 k.b), (5, .agg (U8 k.v).toArray)]) (by rfl) 42 rfl (by rfl) HBD.out ?_) | (refine wpList_store_is (by rfl) 42 rfl rfl rfl HST.out ?_)); simp only [Act.put, List.setIfInBounds_toArray, List.set_cons_zero, List.set_cons_succ])
    (try simp only [Exit.inBlock, Exit.then])
    exact bodyPost_ret (results_lat Tryz.results37 _ _ _ 42 _ _ (by rfl) HLz.out Tryz.underlying42 rfl (by rw [size_row, rowc_len HK32.out])) rfl ⟨rfl, HFz.out⟩
  · obtain ⟨a, cc, eu, hs9, h6⟩ := HC.out (.slice (some ⟨b, o + 33, none⟩) r.length (c - 1)) (.inl rfl)
    have HEU : Hid (_) := eu
    have H6 : Hid (Fz w0 ((w5.setCell ⟨P, 9, none⟩ (.slice (some ⟨b, o + 33, none⟩) r.length (c - 1))).setRow P ((pcl (some p) { x with left := r } (.slice (some ⟨b, o + 33, none⟩) r.length (c - 1))).set 6 (.int .i64 (aftS r))).toArray) (kb E 155 (icells k) :: kb b0 42 row0 :: (X.set j (kd p n (D.wr (1 + k.b).toNat (homeS k.b k.v)))).set i (kr P (some p) { x with st := aftS r, left := r }))) := h6
    clear h6 eu HC
    clear HEU
    refine (homeward_raw hs9).mono ?_
    rintro e w7 ⟨⟨y, rfl⟩, hw7⟩
    have H7 : Hid (Fz w0 w7 (kb E 155 (icells k) :: kb b0 42 row0 :: (X.set j (kd p n (D.wr (1 + k.b).toNat (homeS k.b k.v)))).set i (kr P (some p) { x with st := aftS r, left := r }))) := by rw [hw7]; exact H6.out
    have lE := (H7.out.atb (i := 0) rfl).1
    have i0 := img0 lE
    have HIV : Hid (_) := LAt.loadIv lE HK32.out
    have HBD : Hid (_) := build_row45 w7 15 k.b k.v HK32.out
    obtain ⟨wz, hst, hlz, hfz⟩ := (Fz.pop H7.out).laid (r := ⟨15, k.b, k.v, 0, 0⟩) HK32.out
    have HST : Hid (_) := hst
    have HLz : Hid (_) := hlz
    have HFz : Hid (_) := hfz
    clear hst hlz hfz lE H7 H6 hw7 hs9
    go_wp2_with ((with_reducible refine at_ops ?_); (first | (refine wpList_load_is (by rfl) 39 rfl rfl HIV.out ?_) | (refine wpList_build_is (vs := [(0, .int .i64 15), (4, .int .i64 k.b), (5, .agg (U8 k.v).toArray)]) (by rfl) 42 rfl (by rfl) HBD.out ?_) | (refine wpList_store_is (by rfl) 42 rfl rfl rfl HST.out ?_)); simp only [Act.put, List.setIfInBounds_toArray, List.set_cons_zero, List.set_cons_succ])
    (try simp only [Exit.inBlock, Exit.then])
    exact bodyPost_ret (results_lat Tryz.results37 _ _ _ 42 _ _ (by rfl) HLz.out Tryz.underlying42 rfl (by rw [size_row, rowc_len HK32.out])) rfl ⟨rfl, HFz.out⟩
end
end Go.Proofs.YtdadpepfpiimgaaGreatDoor.Q
namespace Go.Proofs.YtdadpepfpiimgaaGreatDoor.Q
open Go.RowKit
section
variable {w0 w : World} {X : List Kd} {i j P p n : Nat} {q : Option Nat} {D : Dd} {x : Rc}
theorem Pv.t7 {W : World} (h : Pv P q x W) (h1 : x.st ≠ 1) : W.cell? ⟨P, 7, none⟩ = some (.int .u64 (x.en + x.c.lc)) := by rw [h.c7, tlS_ne h1]
theorem Pv.t8 {W : World} (h : Pv P q x W) (h1 : x.st ≠ 1) : W.cell? ⟨P, 8, none⟩ = some (.int .u64 (x.li + 1)) := by rw [h.c8, lfS_ne h1]
theorem build_supN (w : World) (x : Rc) : (Instr.build 121 #[(0, .agg (ccells x.c).toArray), (1, .int .u64 (x.en + x.c.lc)), (2, .int .u64 (x.li + 1))]).run Tryz.prog w = .ok (.agg (scells (supN x)).toArray) w := run_build w 121 _ _ (by kernel_rfl)
set_option maxHeartbeats 2000000 in
set_option maxRecDepth 100000 in
theorem mark_at (ht : Tab w0) (h : Fz w0 w X) (hi : X[i]? = some (kr P (some p) x)) (hj : X[j]? = some (kd p n D)) (hij : i ≠ j) (ok : x.Ok n) (hk : D.ws.length ≤ 100000) (hs : x.st = 4) : Calls Tryz.prog 39 #[qp P] w fun e w' => e = .returned (.tuple #[.agg (rowc ⟨16, -1, zv, x.en + x.c.lc, 0⟩).toArray, .int .i64 0]) ∧ Fz w0 w' ((X.set j (kd p n (D.wr 0 (encS (supN x))))).set i (kr P (some p) { x with st := 5 })) := by
  have HN1 : Hid (x.st ≠ 1) := by show x.st ≠ 1; omega
  have HCK : Hid (chk (supN x) = 0) := by show chk (supN x) = 0; unfold chk; rw [if_pos ok.sup.1, if_pos ok.sup.2]
  have hn0 : (0 : Int) < n := by have := (h.dok hj).n1; omega
  obtain ⟨w1, hal, hb1, h1⟩ := h.rowbox
  generalize w.heap.size = b0 at h1 hal hb1
  have HAL : Hid (_) := hal
  have H1 : Hid (Fz w0 w1.drew (kb b0 42 row0 :: X)) := h1.later (below_drawn 1)
  clear h hal h1 hb1
  go_enter Tryz.func39, Tryz.ntmps39
  go_wp2_with ((with_reducible refine at_ops ?_); (refine wpList_alloc_is (by rfl) 42 rfl HAL.out ?_); simp only [Act.put, List.setIfInBounds_toArray, List.set_cons_zero, List.set_cons_succ])
  refine wp_region_noPanic ?_
  refine wp_region_held_drew (S := fun W => Pv P (some p) x W) (by kernel_rfl) (H1.out.pv (i := i + 1) hi) (fun hHeld => ?_)
  generalize w1.drew = w2 at *
  refine tk 0 hHeld ?_
  refine tk 1 hHeld ?_
  refine tk 2 hHeld ?_
  refine tkm 3 hHeld (fun _ s => s.loadC) ?_
  refine tk 4 hHeld ?_
  refine tk 5 hHeld ?_
  refine tk 6 hHeld ?_
  refine tkl 7 hHeld (fun _ s => s.t7 HN1.out) ?_
  refine tk 8 hHeld ?_
  refine tk 9 hHeld ?_
  refine tk 10 hHeld ?_
  refine tkl 11 hHeld (fun _ s => s.t8 HN1.out) ?_
  refine tkb 12 [(0, .agg (ccells x.c).toArray), (1, .int .u64 (x.en + x.c.lc)), (2, .int .u64 (x.li + 1))] hHeld (fun W => build_supN W x) ?_
  refine tkr 13 fun Kc hKc => ?_
  go_simp
  refine (encode_any (supN x) ok.supwf _ (H1.out.tab ht)).mono ?_
  rintro e w3 ⟨a, m, c, rfl, hm, hmade⟩
  rw [encT_yes _ ok.sup] at hm hmade
  rw [encS_len] at hm
  subst hm
  have HM : Hid (BIn w3 a 64 (encS (supN x))) := hmade.read
  have H3 : Hid (Fz w0 w3 (kb b0 42 row0 :: X)) := H1.out.later hmade.below
  rw [HCK.out]
  clear hmade H1
  go_simp
  refine hKc.out _ _ (H3.out.pv (i := i + 1) hi) fun hHeld => ?_
  clear hKc Kc
  refine tk 14 hHeld ?_
  refine tk 15 hHeld ?_
  refine tk 16 hHeld ?_
  refine tk 17 hHeld ?_
  refine tk 18 hHeld ?_
  clear hHeld
  refine wpAnyH_done (by kernel_rfl) (NoPanic.normal ?_) _
  have c0 := (H3.out.pv (i := i + 1) hi).c0
  go_wp2_with fail
  refine (p_write (j := j + 1) H3.out hj hk (Int.le_refl 0) hn0 HM.out).mono ?_
  rintro e w4 ⟨rfl, h4⟩
  have hi4 : (X.set j (kd p n (D.wr 0 (encS (supN x)))))[i]? = some (kr P (some p) x) := by rw [List.getElem?_set_ne (Ne.symm hij)]; exact hi
  have f0 : w4.frozen? ⟨P, 6, none⟩ = false := by obtain ⟨G, v, hp, -⟩ := h4.atr (i := i + 1) hi4; exact hp.frozen 6
  obtain ⟨c6, h5⟩ := Fz.goes (i := i + 1) h4 hi4 HN1.out (s := 5) (by decide)
  obtain ⟨w5, hw5⟩ : ∃ W, w4.setCell ⟨P, 6, none⟩ (.int .i64 5) = W := ⟨_, rfl⟩
  have H5 : Hid (Fz w0 w5 (kb b0 42 row0 :: (X.set j (kd p n (D.wr 0 (encS (supN x))))).set i (kr P (some p) { x with st := 5 }))) := by rw [← hw5]; exact h5
  have c7 := (H5.out.pv (i := i + 1) (by show ((X.set j (kd p n (D.wr 0 (encS (supN x))))).set i _)[i]? = _; rw [List.getElem?_set_self (by rw [List.length_set]; exact (List.getElem?_eq_some_iff.1 hi).1)])).t7 (by show (5 : Int) ≠ 1; decide)
  have HBD : Hid (_) := build_row6 w5 16 (x.en + x.c.lc)
  obtain ⟨wz, hst, hlz, hfz⟩ := H5.out.laid (r := ⟨16, -1, zv, x.en + x.c.lc, 0⟩) (zs_len 32)
  have HST : Hid (_) := hst
  have HLz : Hid (_) := hlz
  have HFz : Hid (_) := hfz
  clear h4 h5 hst hlz hfz H5 H3 HM hj hi hi4 c0 HAL
  go_wp2_with ((with_reducible refine at_ops ?_); (first | (refine wpList_build_is (vs := [(0, .int .i64 16), (4, .int .i64 (-1)), (6, .int .u64 (x.en + x.c.lc))]) (by rfl) 42 rfl (by rfl) HBD.out ?_) | (refine wpList_store_is (by rfl) 42 rfl rfl rfl HST.out ?_)); simp only [Act.put, List.setIfInBounds_toArray, List.set_cons_zero, List.set_cons_succ])
  (try simp only [Exit.inBlock, Exit.then])
  exact bodyPost_ret (results_lat Tryz.results39 _ _ _ 42 _ _ (by rfl) HLz.out Tryz.underlying42 rfl (by rw [size_row, rowc_len (zs_len 32)])) rfl ⟨rfl, HFz.out⟩
end
end Go.Proofs.YtdadpepfpiimgaaGreatDoor.Q
namespace Go.Proofs.YtdadpepfpiimgaaGreatDoor.Q
open Go.RowKit
section
variable {ops : Array Oper} {o : Oper} {a : Act} {w w' : World} {K : Act → World → Prop} {Q : Exit → Act → World → Prop} {E : Prop} {P : Program}
theorem step_store_is (hg : o.guard = none) (ty : TypeId) {x y : Operand} (ho : o.op = .store ty x y) {p v : Value} (hx : a.eval x = p) (hy : a.eval y = v) (hr : (Instr.storeAt ty p v).run P w = .ok () w') (hK : K (a.put o.dst undef) w') : if Region.wanted o (yielded ops a.tmps) = true then Oper.wp P o a w K Q else E := by
  have hw : Region.wanted o (yielded ops a.tmps) = true := by simp [Region.wanted, hg]
  rw [if_pos hw]
  have hrun : (execOp a.eval o).run P w = .ok .skip w' := by unfold execOp; simp only [ho, hx, hy, Sem.run_bind, hr, Result.andThen_ok, Sem.run_pure]
  unfold Oper.wp
  rw [hrun]
  exact hK
theorem step_alloc_is (hg : o.guard = none) (ty : TypeId) (ho : o.op = .alloc ty) {v : Value} (hr : (Instr.alloc ty true (.tuple #[])).run P w = .ok v w') (hK : K (a.put o.dst v) w') : if Region.wanted o (yielded ops a.tmps) = true then Oper.wp P o a w K Q else E := by
  have hw : Region.wanted o (yielded ops a.tmps) = true := by simp [Region.wanted, hg]
  rw [if_pos hw]
  have hrun : (execOp a.eval o).run P w = .ok (.value v) w' := by unfold execOp; simp only [ho, Sem.run_bind, hr, Result.andThen_ok, Sem.run_pure]
  unfold Oper.wp
  rw [hrun]
  exact hK
end
def Th.txs (v : Value) (l : List TX) (vs : List Value) : Th := ⟨fun w _ => XOwn 207 w 0 v l vs, fun b => v.ownBlock = some b ∨ ∃ k u, vs[k]? = some u ∧ k < l.length ∧ u.ownBlock = some b, fun _ _ b h hb => by
  rcases hb with hb | ⟨k, u, h1, h2, hb⟩
  · exact (World.ownsRow.lt h.row b hb).2
  · exact (World.ownsRow.lt (h.each k l[k] u (List.getElem?_eq_getElem h2) h1) b hb).2, fun w w' _ _ _ h hk hf _ _ => by
  have hr : ∀ {e s : Nat} {v : Value} {n : Nat} {xs : List Value}, w.ownsRow 0 e s v n xs → (∀ k, v.ownBlock = some k → w'.heap[k]? = w.heap[k]?) → w'.ownsRow 0 e s v n xs := fun a b => own_same a b
  exact ⟨h.len, hr h.row fun k e => hk.block k (World.ownsRow.lt h.row k e).2 (hf k (.inl e)), fun k t u a b => hr (h.each k t u a b) fun g e => hk.block g (World.ownsRow.lt (h.each k t u a b) g e).2 (hf g (.inr ⟨k, u, b, (List.getElem?_eq_some_iff.1 a).1, e⟩)), h.wf⟩⟩
def Th.ims (v : Value) (l : List Im) : Th := ⟨fun w _ => IOwn w 0 v l, fun b => v.ownBlock = some b, fun _ _ b h hb => (World.ownsRow.lt h b hb).2, fun _ _ _ _ _ h hk hf _ _ => own_same h fun k e => hk.block k (World.ownsRow.lt h k e).2 (hf k e)⟩
def kx (v : Value) (l : List TX) : Kd := fun t => ∃ vs, t = Th.txs v l vs
def ko (v : Value) (l : List Im) : Kd := fun t => t = Th.ims v l
section
variable {w0 w w' : World} {X : List Kd} {i j P p n : Nat} {q : Option Nat} {D : Dd} {x : Rc} {v : Value}
theorem own_zero {w : World} {B e s n : Nat} {v : Value} {xs : List Value} (h : w.ownsRow B e s v n xs) : w.ownsRow 0 e s v n xs := own_at h (fun _ _ => Nat.zero_le _) rfl
theorem p_read (ht : Tab w0) (h : Fz w0 w X) (hj : X[j]? = some (kd p n D)) (c : Sup) : Calls Tryz.prog 76 #[qp p, .agg (ccells c).toArray] w fun e w' => ∃ a m, e = .returned (.tuple #[.agg (gcells (lgS n c D).tail (lgS n c D).life (lgS n c D).fin (.slice a (lgS n c D).txs.length m)).toArray, .int .i64 (rdL c n D.rd).2]) ∧ Fz w0 w' (kx (.slice a (lgS n c D).txs.length m) (lgS n c D).txs :: X) := by
  obtain ⟨S, hd, _, _⟩ := h.atd hj
  refine (read_any10 hd (h.tab ht) c).mono ?_
  rintro e w' ⟨a, m, vs, rfl, hx, hr, hb⟩
  refine ⟨a, m, rfl, h.push hb (u := .txs _ _ vs) (fun _ => ⟨hx.len, own_zero hx.row, fun k t u e1 e2 => own_zero (hx.each k t u e1 e2), hx.wf⟩) (fun b hb => ?_) ⟨vs, rfl⟩⟩
  rcases hb with hb | ⟨k, u, h1, h2, hb⟩
  · exact (World.ownsRow.lt hx.row b hb).1
  · exact (World.ownsRow.lt (hx.each k _ u (List.getElem?_eq_getElem h2) h1) b hb).1
theorem p_newest (h : Fz w0 w X) {a : Option Addr} {m c : Nat} {l : List TX} (hj : X[j]? = some (kx (.slice a m c) l)) (hn : l.length ≤ 2000000) (hf : (flat l).length ≤ 2000000) : Calls Tryz.prog 77 #[.slice a m c] w fun e w' => ∃ v, e = .returned v ∧ Fz w0 w' (ko v (nwS (flat l)) :: X) := by
  obtain ⟨t, G, ⟨vs, rfl⟩, ha, -⟩ := h.at hj
  obtain ⟨a', c', e, hx, _, _⟩ := XOwn.in ha
  cases e
  refine (newest_any a _ c l w hx ha.wf hn hf).mono ?_
  rintro e w' ⟨v, rfl, ho, hb⟩
  exact ⟨v, rfl, h.push hb (u := .ims v _) (fun _ => own_zero ho) (fun b hb => (World.ownsRow.lt ho b hb).1) rfl⟩
theorem Fz.swap {k k' : Kd} (h : Fz w0 w (k :: k' :: X)) : Fz w0 w (k' :: k :: X) :=
  h.pick (fun i => if i = 0 then 1 else if i = 1 then 0 else i) (fun i hi => by
    match i, hi with
    | 0, _ => exact ⟨by simp, rfl⟩
    | 1, _ => exact ⟨by simp, rfl⟩
    | i + 2, hi => exact ⟨by simpa using hi, rfl⟩) (fun i j _ _ e => by
    have e : (if i = 0 then 1 else if i = 1 then 0 else i) = (if j = 0 then 1 else if j = 1 then 0 else j) := e
    split at e <;> split at e <;> (try split at e) <;> (try split at e) <;> omega)
theorem Fz.openr (h : Fz w0 w X) (hi : X[i]? = some (kr P q x)) (hl : x.left = []) : ∃ a c, Fz w0 w (X.set i (kb P 112 (pcl q x (.slice a 0 c)))) := by
  obtain ⟨t, G, ⟨v, rfl⟩, ha, hf, hL⟩ := h.at hi
  have hlf := ha.lf
  rw [hl] at hlf
  obtain ⟨a, c, e, -⟩ := hlf.ex
  have e : v = .slice a 0 c := e
  subst e
  exact ⟨a, c, hL w (.blk P 112 _) G (fun _ => False) _ ha.str (Kept.refl _ w) (fun _ _ e => e.elim) (fun b hb => .inl hb) (fun _ e => e) (fun _ e => .inl e) rfl⟩
theorem Fz.shut {l : List Im} (h : Fz w0 w (ko v l :: X)) (hi : X[i]? = some (kb P 112 (pcl q x v))) (hl : x.left = l) (hw : ImsWf l) : Fz w0 w (X.set i (kr P q x)) := by
  obtain ⟨T, G, hF, hb, hX⟩ := h
  cases T with
  | nil => exact hX.elim
  | cons t T =>
    obtain ⟨rfl, hX⟩ := hX
    obtain ⟨u, hu, rfl⟩ := hX.get hi
    have ho : IOwn w 0 v l := hF.at' 0 _ rfl
    have hF2 : Fam w0 w T (fun g => G g ∨ v.ownBlock = some g) := ⟨fun j t e => t.kept' w w G _ (fun _ => False) (hF.at' (j + 1) t (by simpa using e)) (Kept.refl _ w) (fun _ _ e => e) (fun _ _ _ e => e) (fun _ e => .inl e), fun j t e => hF.lo (j + 1) t (by simpa using e), fun a b t u e1 e2 hne => hF.apart (a + 1) (b + 1) t u (by simpa using e1) (by simpa using e2) (by omega), fun j t e b hb hg => by
      rcases hg with hg | hg
      · exact hF.im (j + 1) t (by simpa using e) b hb hg
      · exact hF.apart (j + 1) 0 t _ (by simpa using e) rfl (by omega) b hb hg, fun g hg => by
      rcases hg with hg | hg
      · exact hF.glt g hg
      · exact (World.ownsRow.lt ho g hg).2⟩
    have hs : w.heap[P]? = some (.cells (pcl q x v).toArray 112 (0, 0)) := hF2.at' i _ hu
    refine ⟨T.set i (.prc P q x v), _, hF2.turn (S := fun _ => False) hu (t' := .prc P q x v) ⟨hs, by rw [hl]; exact Lf.of_own ho hw⟩ (Kept.refl _ w) (fun _ _ e => e.elim) (fun b hb => .inl hb) hb.size (fun _ e => e) (fun _ e => .inl e), hb, hX.set i ⟨v, rfl⟩⟩
end
end Go.Proofs.YtdadpepfpiimgaaGreatDoor.Q
