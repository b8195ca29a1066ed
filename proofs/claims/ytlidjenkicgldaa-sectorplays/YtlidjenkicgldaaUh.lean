/-
  Layer 4: plays: Copy.
-/
import Derived.Test.YtlidjenkicgldaaUc
import Derived.BigQuiet
namespace Go.Proofs.Ytlidjenkicgldaa
open Go.RowKit

set_option maxRecDepth 100000 in
set_option maxHeartbeats 8000000 in
theorem plays_copy {w : World} {B P n K : Nat} (h : St w B P n K) (hK : K ≤ 100) (W N : Int) (pd pk : Option Addr) (ld cd lk ck : Nat) :
    Calls Try.prog 26 #[.pointer (some ⟨P, 0, none⟩), .agg #[.int .i64 7, .int .i64 W, .int .i64 N, .slice pd ld cd, .slice pk lk ck]] w fun e0 w' => e0 = .returned (.bool true) ∧ St w' B P n (K + 1) ∧ Below B w w' := by
  obtain ⟨R, x, y, e, u, m, hp, hu, hm, hB⟩ := h
  have t2 := tmod2 W
  have e2 := sl2_is W
  have l2 := sl2_lt W
  go_enter Try.func26, Try.ntmps26
  go_wp2
  rw [e2]
  have HH0 : Hid (Pr w R B P x y n e u e u m) := hp
  have HBx : Hid (Below w.heap.size w (w.alloc (.cells #[.int .i64 7, .int .i64 W, .int .i64 N, .slice pd ld cd, .slice pk lk ck] 61)) ∧ (w.alloc (.cells #[.int .i64 7, .int .i64 W, .int .i64 N, .slice pd ld cd, .slice pk lk ck] 61)).heap[w.heap.size]? = some (.cells #[.int .i64 7, .int .i64 W, .int .i64 N, .slice pd ld cd, .slice pk lk ck] 61 (0, 0))) := ⟨below_alloc w _, heap_alloc_new w _⟩
  have HZ : Hid (R w.heap.size = 0) := hp.hi _ (Nat.le_refl _)
  clear hp t2 e2
  revert HBx l2
  generalize sl2 W = i
  generalize w.alloc (.cells #[.int .i64 7, .int .i64 W, .int .i64 N, .slice pd ld cd, .slice pk lk ck] 61) = w1
  intro l2 HBx
  have HH1 : Hid (Pr w1 R B P x y n e u e u m) := HH0.out.later HBx.out.1
  have HBo : Hid (Box w1 w.heap.size 7 W N (.slice pd ld cd) (.slice pk lk ck)) := HBx.out.2
  have s1 := HBx.out.1.size
  have HB1 : Hid (Below w.heap.size w w1) := HBx.out.1
  have hul : (u i).length ≤ 100 := by have := hu i l2; omega
  clear HBx HH0
  have c0 := HH1.out.cx i l2
  have c1 := HH1.out.cy i l2
  have d0 : w1.drew.cell? ⟨P, i, none⟩ = some (.pointer (some ⟨x i, 0, none⟩)) := c0
  have d1 : w1.drew.cell? ⟨P, 2 + i, none⟩ = some (.pointer (some ⟨y i, 0, none⟩)) := c1
  go_quiet (fail)
  have HH : Hid (Pr (w1.drewN nq) R B P x y n e u e u m) := HH1.out.later (below_drawn nq)
  have HX : Hid (Box (w1.drewN nq) w.heap.size 7 W N (.slice pd ld cd) (.slice pk lk ck)) := HBo.out.later (below_drawn nq)
  have HB2 : Hid (Below w.heap.size w (w1.drewN nq)) := below_then HB1.out (below_drawn nq)
  have hs2 : w.heap.size ≤ (w1.drewN nq).heap.size := s1
  clear c0 c1 d0 d1 HH1 HBo HB1 s1
  revert HH HX HB2 hs2
  generalize w1.drewN nq = w2
  intro HH HX HB2 hs2
  have hB2 : B ≤ w2.heap.size := by omega
  obtain ⟨b0, b1, b2, b3, b4⟩ := HX.out.at
  clear b1 b2 b3 b4
  rcases (show i = 0 ∨ i = 1 by omega) with rfl | rfl
  · go_wp2
    clear b0
    have hw0 : IntKind.i64.wrap 0 = 0 := by rw [IntKind.wrap_i64]; omega
    have hw1 : IntKind.i64.wrap 1 = 1 := by rw [IntKind.wrap_i64]; omega
    refine wp_region_noPanic ?_
    refine wp_region_held_drew (S := fun _ => True) (by kernel_rfl) trivial (fun hHeld => ?_)
    refine wpAnyH_take (i := 0) (v := ?v0s0) (by simp; rfl) (by kernel_rfl) (by kernel_rfl) (by kernel_rfl) (fun _ _ _ h => h) (Or.inl ⟨by rfl, ?y0s0⟩) hHeld ?r0s0
    case y0s0 => intro w hSw; clear hSw; go_simp; with_reducible rfl
    simp only [Act.put, List.setIfInBounds_toArray, List.set_cons_zero, List.set_cons_succ]
    refine wpAnyH_take (i := 1) (v := ?v1s0) (by simp; rfl) (by kernel_rfl) (by kernel_rfl) (by kernel_rfl) (fun _ _ _ h => h) (Or.inl ⟨by rfl, ?y1s0⟩) hHeld ?r1s0
    case y1s0 => intro w hSw; clear hSw; go_simp; with_reducible rfl
    simp only [Act.put, List.setIfInBounds_toArray, List.set_cons_zero, List.set_cons_succ]
    refine wpAnyH_take (i := 2) (v := ?v2s0) (by simp; rfl) (by kernel_rfl) (by kernel_rfl) (by kernel_rfl) (fun _ _ _ h => h) (Or.inl ⟨by rfl, ?y2s0⟩) hHeld ?r2s0
    case y2s0 => intro w hSw; clear hSw; go_simp; with_reducible rfl
    simp only [Act.put, List.setIfInBounds_toArray, List.set_cons_zero, List.set_cons_succ]
    refine wpAnyH_take (i := 3) (v := ?v3s0) (by simp; rfl) (by kernel_rfl) (by kernel_rfl) (by kernel_rfl) (fun _ _ _ h => h) (Or.inl ⟨by rfl, ?y3s0⟩) hHeld ?r3s0
    case y3s0 => intro w hSw; clear hSw; go_simp; with_reducible rfl
    simp only [Act.put, List.setIfInBounds_toArray, List.set_cons_zero, List.set_cons_succ]
    refine wpAnyH_take (i := 4) (v := ?v4s0) (by simp; rfl) (by kernel_rfl) (by kernel_rfl) (by kernel_rfl) (fun _ _ _ h => h) (Or.inl ⟨by rfl, ?y4s0⟩) hHeld ?r4s0
    case y4s0 => intro w hSw; clear hSw; go_simp; with_reducible rfl
    simp only [Act.put, List.setIfInBounds_toArray, List.set_cons_zero, List.set_cons_succ]
    refine wpAnyH_take (i := 5) (v := ?v5s0) (by simp; rfl) (by kernel_rfl) (by kernel_rfl) (by kernel_rfl) (fun _ _ _ h => h) (Or.inl ⟨by rfl, ?y5s0⟩) hHeld ?r5s0
    case y5s0 => intro w hSw; clear hSw; go_simp; with_reducible rfl
    simp only [Act.put, List.setIfInBounds_toArray, List.set_cons_zero, List.set_cons_succ]
    refine wpAnyH_take (i := 6) (v := ?v6s0) (by simp; rfl) (by kernel_rfl) (by kernel_rfl) (by kernel_rfl) (fun _ _ _ h => h) (Or.inl ⟨by rfl, ?y6s0⟩) hHeld ?r6s0
    case y6s0 => intro w hSw; clear hSw; go_simp; with_reducible rfl
    simp only [Act.put, List.setIfInBounds_toArray, List.set_cons_zero, List.set_cons_succ]
    refine wpAnyH_take (i := 8) (v := ?v8s0) (by simp; rfl) (by kernel_rfl) (by kernel_rfl) (by kernel_rfl) (fun _ _ _ h => h) (Or.inl ⟨by rfl, ?y8s0⟩) hHeld ?r8s0
    case y8s0 => intro w hSw; clear hSw; go_simp; with_reducible rfl
    simp only [Act.put, List.setIfInBounds_toArray, List.set_cons_zero, List.set_cons_succ]
    refine wpAnyH_take (i := 10) (v := ?v10s0) (by simp; rfl) (by kernel_rfl) (by kernel_rfl) (by kernel_rfl) (fun _ _ _ h => h) (Or.inl ⟨by rfl, ?y10s0⟩) hHeld ?r10s0
    case y10s0 => intro w hSw; clear hSw; go_simp; with_reducible rfl
    simp only [Act.put, List.setIfInBounds_toArray, List.set_cons_zero, List.set_cons_succ]
    refine wpAnyH_take (i := 11) (v := ?v11s0) (by simp; rfl) (by kernel_rfl) (by kernel_rfl) (by kernel_rfl) (fun _ _ _ h => h) (Or.inl ⟨by rfl, ?y11s0⟩) hHeld ?r11s0
    case y11s0 => intro w hSw; clear hSw; go_simp; with_reducible rfl
    simp only [Act.put, List.setIfInBounds_toArray, List.set_cons_zero, List.set_cons_succ]
    refine wpAnyH_take (i := 14) (v := ?v14s0) (by simp; rfl) (by kernel_rfl) (by kernel_rfl) (by kernel_rfl) (fun _ _ _ h => h) (Or.inl ⟨by rfl, ?y14s0⟩) hHeld ?r14s0
    case y14s0 => intro w hSw; clear hSw; go_simp; with_reducible rfl
    simp only [Act.put, List.setIfInBounds_toArray, List.set_cons_zero, List.set_cons_succ]
    refine wpAnyH_take (i := 15) (v := ?v15s0) (by simp; rfl) (by kernel_rfl) (by kernel_rfl) (by kernel_rfl) (fun _ _ _ h => h) (Or.inl ⟨by rfl, ?y15s0⟩) hHeld ?r15s0
    case y15s0 => intro w hSw; clear hSw; go_simp; with_reducible rfl
    simp only [Act.put, List.setIfInBounds_toArray, List.set_cons_zero, List.set_cons_succ]
    refine wpAnyH_ready (rs := [7]) (by kernel_rfl) (by simp) ?_
    refine AllReadyH.cons (by simp; rfl) (fun Kc hKc => ?_) AllReadyH.nil
    go_simp
    refine (copy_any ((HH.out.dsk 0 l2).later (show Below w2.heap.size w2 w2.drew from ⟨rfl, rfl, rfl, Nat.le_refl _, fun _ _ => rfl⟩)) (by omega)).mono ?_
    rintro e1 w3 ⟨p, rfl, hd, hb3⟩
    replace hb3 : Below w2.heap.size w2 w3 := below_undrew hb3
    replace hd : Dsk w3 (fun k => w2.heap.size ≤ k) p n (e 0) (u 0) := hd
    refine hKc.out _ _ trivial (fun hHeld => ?_)
    clear hKc Kc
    refine wpAnyH_ready (rs := [9]) (by kernel_rfl) (by simp) ?_
    refine AllReadyH.cons (by simp; rfl) (fun Kc hKc => ?_) AllReadyH.nil
    go_simp
    refine (rcopy_any ((HH.out.ref 0 l2).later hb3) (by omega)).mono ?_
    rintro e1 w4 ⟨q, rfl, hr, hb4⟩
    have hbP : Blk w4 P 58 6 := (HH.out.blk.same (hb3.block P HH.out.blk.lt)).same (hb4.block P (Nat.lt_of_lt_of_le HH.out.blk.lt hb3.size))
    refine hKc.out _ _ trivial (fun hHeld => ?_)
    clear hKc Kc
    obtain ⟨v0, hv0⟩ := hbP.some 1 (by omega)
    have hf0 := hbP.free 1
    have hbP2 := hbP.setCell (g' := P) (o := 1) (.pointer (some ⟨p, 0, none⟩))
    obtain ⟨v1, hv1⟩ := hbP2.some 3 (by omega)
    have hf1 := hbP2.free 3
    have hs3 := hb3.size
    have hs4 := hb4.size
    have cj : ((w4.setCell ⟨P, 1, none⟩ (.pointer (some ⟨p, 0, none⟩))).setCell ⟨P, 3, none⟩ (.pointer (some ⟨q, 0, none⟩))).cell? ⟨P, 1, none⟩ = some (.pointer (some ⟨p, 0, none⟩)) := by
      rw [World.cell?_setCell_other _ _ _ _ (by intro e; simp at e)]; exact World.cell?_setCell_same _ _ _ hv0
    have HF : Hid ((∃ R', Pr ((w4.setCell ⟨P, 1, none⟩ (.pointer (some ⟨p, 0, none⟩))).setCell ⟨P, 3, none⟩ (.pointer (some ⟨q, 0, none⟩))) R' B P (at2 x 1 p) (at2 y 1 q) n (at2 e 1 (e 0)) (at2 u 1 (u 0)) (at2 e 1 (e 0)) (at2 u 1 (u 0)) m) ∧ Below B w ((w4.setCell ⟨P, 1, none⟩ (.pointer (some ⟨p, 0, none⟩))).setCell ⟨P, 3, none⟩ (.pointer (some ⟨q, 0, none⟩))) ∧ B ≤ ((w4.setCell ⟨P, 1, none⟩ (.pointer (some ⟨p, 0, none⟩))).setCell ⟨P, 3, none⟩ (.pointer (some ⟨q, 0, none⟩))).heap.size) := by
      have hPB : B ≤ P := HH.out.beyond (by rw [HH.out.rp]; omega)
      refine ⟨HH.out.swap (j := 1) (by omega) (S1 := fun k => w2.heap.size ≤ k ∧ k < w3.heap.size) (S2 := fun k => w3.heap.size ≤ k) (below_then hb3 hb4) ((hd.mono (fun k h1 h2 => ⟨h2, h1⟩)).later hb4) hr (fun k h => h.1) (fun k h => Nat.le_trans hs3 h) (fun k h1 h2 => by omega) (by simp [World.setCell]) (fun k hk => (heap_setCell_other _ _ _ _ hk).trans (heap_setCell_other _ _ _ _ hk)) (hbP2.setCell _) (fun o h1 h2 => ?_) cj (World.cell?_setCell_same _ _ _ hv1) hB2, ?_, by simp [World.setCell]; omega⟩
      · rw [World.cell?_setCell_other _ _ _ _ (by intro e; simp only [Addr.mk.injEq] at e; omega), World.cell?_setCell_other _ _ _ _ (by intro e; simp only [Addr.mk.injEq] at e; omega)]
      · exact (((HB2.out.mono hB).trans ((below_then hb3 hb4).mono hB2)).setCell hPB _).setCell hPB _
    clear hbP hbP2 hd hr hb3 hb4
    refine wpAnyH_take (i := 12) (v := ?v12s0) (by simp; rfl) (by kernel_rfl) (by kernel_rfl) (by kernel_rfl) (fun _ _ _ h => h) (Or.inl ⟨by rfl, ?y12s0⟩) hHeld ?r12s0
    case y12s0 => intro w hSw; clear hSw; go_simp; with_reducible rfl
    simp only [Act.put, List.setIfInBounds_toArray, List.set_cons_zero, List.set_cons_succ]
    refine wpAnyH_ready (rs := [13]) (by kernel_rfl) (by simp) ?_
    refine AllReadyH.cons (by simp; rfl) (fun Kc hKc => ?_) AllReadyH.nil
    go_simp
    refine hKc.out _ _ trivial (fun hHeld => ?_)
    clear hKc Kc
    refine wpAnyH_take (i := 16) (v := ?v16s0) (by simp; rfl) (by kernel_rfl) (by kernel_rfl) (by kernel_rfl) (fun _ _ _ h => h) (Or.inl ⟨by rfl, ?y16s0⟩) hHeld ?r16s0
    case y16s0 => intro w hSw; clear hSw; go_simp; with_reducible rfl
    simp only [Act.put, List.setIfInBounds_toArray, List.set_cons_zero, List.set_cons_succ]
    refine wpAnyH_ready (rs := [17]) (by kernel_rfl) (by simp) ?_
    refine AllReadyH.cons (by simp; rfl) (fun Kc hKc => ?_) AllReadyH.nil
    go_simp
    refine hKc.out _ _ trivial (fun hHeld => ?_)
    clear hKc Kc
    refine wpAnyH_done (by kernel_rfl) (NoPanic.normal ?_) _
    clear hHeld hv0 hv1 hf0 hf1
    go_wp2
    go_ret
    obtain ⟨⟨R', hP'⟩, hbf, hsf⟩ := HF.out
    refine ⟨rfl, ⟨R', _, _, _, _, m, hP', fun k hk => ?_, by omega, hsf⟩, hbf⟩
    have h1 := hu k hk
    have h2 := hu 0 (by omega)
    unfold at2; split <;> omega
  · go_wp2
    clear b0
    have hw0 : IntKind.i64.wrap 0 = 0 := by rw [IntKind.wrap_i64]; omega
    have hw1 : IntKind.i64.wrap 1 = 1 := by rw [IntKind.wrap_i64]; omega
    refine wp_region_noPanic ?_
    refine wp_region_held_drew (S := fun _ => True) (by kernel_rfl) trivial (fun hHeld => ?_)
    refine wpAnyH_take (i := 0) (v := ?v0s1) (by simp; rfl) (by kernel_rfl) (by kernel_rfl) (by kernel_rfl) (fun _ _ _ h => h) (Or.inl ⟨by rfl, ?y0s1⟩) hHeld ?r0s1
    case y0s1 => intro w hSw; clear hSw; go_simp; with_reducible rfl
    simp only [Act.put, List.setIfInBounds_toArray, List.set_cons_zero, List.set_cons_succ]
    refine wpAnyH_take (i := 1) (v := ?v1s1) (by simp; rfl) (by kernel_rfl) (by kernel_rfl) (by kernel_rfl) (fun _ _ _ h => h) (Or.inl ⟨by rfl, ?y1s1⟩) hHeld ?r1s1
    case y1s1 => intro w hSw; clear hSw; go_simp; with_reducible rfl
    simp only [Act.put, List.setIfInBounds_toArray, List.set_cons_zero, List.set_cons_succ]
    refine wpAnyH_take (i := 2) (v := ?v2s1) (by simp; rfl) (by kernel_rfl) (by kernel_rfl) (by kernel_rfl) (fun _ _ _ h => h) (Or.inl ⟨by rfl, ?y2s1⟩) hHeld ?r2s1
    case y2s1 => intro w hSw; clear hSw; go_simp; with_reducible rfl
    simp only [Act.put, List.setIfInBounds_toArray, List.set_cons_zero, List.set_cons_succ]
    refine wpAnyH_take (i := 3) (v := ?v3s1) (by simp; rfl) (by kernel_rfl) (by kernel_rfl) (by kernel_rfl) (fun _ _ _ h => h) (Or.inl ⟨by rfl, ?y3s1⟩) hHeld ?r3s1
    case y3s1 => intro w hSw; clear hSw; go_simp; with_reducible rfl
    simp only [Act.put, List.setIfInBounds_toArray, List.set_cons_zero, List.set_cons_succ]
    refine wpAnyH_take (i := 4) (v := ?v4s1) (by simp; rfl) (by kernel_rfl) (by kernel_rfl) (by kernel_rfl) (fun _ _ _ h => h) (Or.inl ⟨by rfl, ?y4s1⟩) hHeld ?r4s1
    case y4s1 => intro w hSw; clear hSw; go_simp; with_reducible rfl
    simp only [Act.put, List.setIfInBounds_toArray, List.set_cons_zero, List.set_cons_succ]
    refine wpAnyH_take (i := 5) (v := ?v5s1) (by simp; rfl) (by kernel_rfl) (by kernel_rfl) (by kernel_rfl) (fun _ _ _ h => h) (Or.inl ⟨by rfl, ?y5s1⟩) hHeld ?r5s1
    case y5s1 => intro w hSw; clear hSw; go_simp; with_reducible rfl
    simp only [Act.put, List.setIfInBounds_toArray, List.set_cons_zero, List.set_cons_succ]
    refine wpAnyH_take (i := 6) (v := ?v6s1) (by simp; rfl) (by kernel_rfl) (by kernel_rfl) (by kernel_rfl) (fun _ _ _ h => h) (Or.inl ⟨by rfl, ?y6s1⟩) hHeld ?r6s1
    case y6s1 => intro w hSw; clear hSw; go_simp; with_reducible rfl
    simp only [Act.put, List.setIfInBounds_toArray, List.set_cons_zero, List.set_cons_succ]
    refine wpAnyH_take (i := 8) (v := ?v8s1) (by simp; rfl) (by kernel_rfl) (by kernel_rfl) (by kernel_rfl) (fun _ _ _ h => h) (Or.inl ⟨by rfl, ?y8s1⟩) hHeld ?r8s1
    case y8s1 => intro w hSw; clear hSw; go_simp; with_reducible rfl
    simp only [Act.put, List.setIfInBounds_toArray, List.set_cons_zero, List.set_cons_succ]
    refine wpAnyH_take (i := 10) (v := ?v10s1) (by simp; rfl) (by kernel_rfl) (by kernel_rfl) (by kernel_rfl) (fun _ _ _ h => h) (Or.inl ⟨by rfl, ?y10s1⟩) hHeld ?r10s1
    case y10s1 => intro w hSw; clear hSw; go_simp; with_reducible rfl
    simp only [Act.put, List.setIfInBounds_toArray, List.set_cons_zero, List.set_cons_succ]
    refine wpAnyH_take (i := 11) (v := ?v11s1) (by simp; rfl) (by kernel_rfl) (by kernel_rfl) (by kernel_rfl) (fun _ _ _ h => h) (Or.inl ⟨by rfl, ?y11s1⟩) hHeld ?r11s1
    case y11s1 => intro w hSw; clear hSw; go_simp; with_reducible rfl
    simp only [Act.put, List.setIfInBounds_toArray, List.set_cons_zero, List.set_cons_succ]
    refine wpAnyH_take (i := 14) (v := ?v14s1) (by simp; rfl) (by kernel_rfl) (by kernel_rfl) (by kernel_rfl) (fun _ _ _ h => h) (Or.inl ⟨by rfl, ?y14s1⟩) hHeld ?r14s1
    case y14s1 => intro w hSw; clear hSw; go_simp; with_reducible rfl
    simp only [Act.put, List.setIfInBounds_toArray, List.set_cons_zero, List.set_cons_succ]
    refine wpAnyH_take (i := 15) (v := ?v15s1) (by simp; rfl) (by kernel_rfl) (by kernel_rfl) (by kernel_rfl) (fun _ _ _ h => h) (Or.inl ⟨by rfl, ?y15s1⟩) hHeld ?r15s1
    case y15s1 => intro w hSw; clear hSw; go_simp; with_reducible rfl
    simp only [Act.put, List.setIfInBounds_toArray, List.set_cons_zero, List.set_cons_succ]
    refine wpAnyH_ready (rs := [7]) (by kernel_rfl) (by simp) ?_
    refine AllReadyH.cons (by simp; rfl) (fun Kc hKc => ?_) AllReadyH.nil
    go_simp
    refine (copy_any ((HH.out.dsk 1 l2).later (show Below w2.heap.size w2 w2.drew from ⟨rfl, rfl, rfl, Nat.le_refl _, fun _ _ => rfl⟩)) (by omega)).mono ?_
    rintro e1 w3 ⟨p, rfl, hd, hb3⟩
    replace hb3 : Below w2.heap.size w2 w3 := below_undrew hb3
    replace hd : Dsk w3 (fun k => w2.heap.size ≤ k) p n (e 1) (u 1) := hd
    refine hKc.out _ _ trivial (fun hHeld => ?_)
    clear hKc Kc
    refine wpAnyH_ready (rs := [9]) (by kernel_rfl) (by simp) ?_
    refine AllReadyH.cons (by simp; rfl) (fun Kc hKc => ?_) AllReadyH.nil
    go_simp
    refine (rcopy_any ((HH.out.ref 1 l2).later hb3) (by omega)).mono ?_
    rintro e1 w4 ⟨q, rfl, hr, hb4⟩
    have hbP : Blk w4 P 58 6 := (HH.out.blk.same (hb3.block P HH.out.blk.lt)).same (hb4.block P (Nat.lt_of_lt_of_le HH.out.blk.lt hb3.size))
    refine hKc.out _ _ trivial (fun hHeld => ?_)
    clear hKc Kc
    obtain ⟨v0, hv0⟩ := hbP.some 0 (by omega)
    have hf0 := hbP.free 0
    have hbP2 := hbP.setCell (g' := P) (o := 0) (.pointer (some ⟨p, 0, none⟩))
    obtain ⟨v1, hv1⟩ := hbP2.some 2 (by omega)
    have hf1 := hbP2.free 2
    have hs3 := hb3.size
    have hs4 := hb4.size
    have cj : ((w4.setCell ⟨P, 0, none⟩ (.pointer (some ⟨p, 0, none⟩))).setCell ⟨P, 2, none⟩ (.pointer (some ⟨q, 0, none⟩))).cell? ⟨P, 0, none⟩ = some (.pointer (some ⟨p, 0, none⟩)) := by
      rw [World.cell?_setCell_other _ _ _ _ (by intro e; simp at e)]; exact World.cell?_setCell_same _ _ _ hv0
    have HF : Hid ((∃ R', Pr ((w4.setCell ⟨P, 0, none⟩ (.pointer (some ⟨p, 0, none⟩))).setCell ⟨P, 2, none⟩ (.pointer (some ⟨q, 0, none⟩))) R' B P (at2 x 0 p) (at2 y 0 q) n (at2 e 0 (e 1)) (at2 u 0 (u 1)) (at2 e 0 (e 1)) (at2 u 0 (u 1)) m) ∧ Below B w ((w4.setCell ⟨P, 0, none⟩ (.pointer (some ⟨p, 0, none⟩))).setCell ⟨P, 2, none⟩ (.pointer (some ⟨q, 0, none⟩))) ∧ B ≤ ((w4.setCell ⟨P, 0, none⟩ (.pointer (some ⟨p, 0, none⟩))).setCell ⟨P, 2, none⟩ (.pointer (some ⟨q, 0, none⟩))).heap.size) := by
      have hPB : B ≤ P := HH.out.beyond (by rw [HH.out.rp]; omega)
      refine ⟨HH.out.swap (j := 0) (by omega) (S1 := fun k => w2.heap.size ≤ k ∧ k < w3.heap.size) (S2 := fun k => w3.heap.size ≤ k) (below_then hb3 hb4) ((hd.mono (fun k h1 h2 => ⟨h2, h1⟩)).later hb4) hr (fun k h => h.1) (fun k h => Nat.le_trans hs3 h) (fun k h1 h2 => by omega) (by simp [World.setCell]) (fun k hk => (heap_setCell_other _ _ _ _ hk).trans (heap_setCell_other _ _ _ _ hk)) (hbP2.setCell _) (fun o h1 h2 => ?_) cj (World.cell?_setCell_same _ _ _ hv1) hB2, ?_, by simp [World.setCell]; omega⟩
      · rw [World.cell?_setCell_other _ _ _ _ (by intro e; simp only [Addr.mk.injEq] at e; omega), World.cell?_setCell_other _ _ _ _ (by intro e; simp only [Addr.mk.injEq] at e; omega)]
      · exact (((HB2.out.mono hB).trans ((below_then hb3 hb4).mono hB2)).setCell hPB _).setCell hPB _
    clear hbP hbP2 hd hr hb3 hb4
    refine wpAnyH_take (i := 12) (v := ?v12s1) (by simp; rfl) (by kernel_rfl) (by kernel_rfl) (by kernel_rfl) (fun _ _ _ h => h) (Or.inl ⟨by rfl, ?y12s1⟩) hHeld ?r12s1
    case y12s1 => intro w hSw; clear hSw; go_simp; with_reducible rfl
    simp only [Act.put, List.setIfInBounds_toArray, List.set_cons_zero, List.set_cons_succ]
    refine wpAnyH_ready (rs := [13]) (by kernel_rfl) (by simp) ?_
    refine AllReadyH.cons (by simp; rfl) (fun Kc hKc => ?_) AllReadyH.nil
    go_simp
    refine hKc.out _ _ trivial (fun hHeld => ?_)
    clear hKc Kc
    refine wpAnyH_take (i := 16) (v := ?v16s1) (by simp; rfl) (by kernel_rfl) (by kernel_rfl) (by kernel_rfl) (fun _ _ _ h => h) (Or.inl ⟨by rfl, ?y16s1⟩) hHeld ?r16s1
    case y16s1 => intro w hSw; clear hSw; go_simp; with_reducible rfl
    simp only [Act.put, List.setIfInBounds_toArray, List.set_cons_zero, List.set_cons_succ]
    refine wpAnyH_ready (rs := [17]) (by kernel_rfl) (by simp) ?_
    refine AllReadyH.cons (by simp; rfl) (fun Kc hKc => ?_) AllReadyH.nil
    go_simp
    refine hKc.out _ _ trivial (fun hHeld => ?_)
    clear hKc Kc
    refine wpAnyH_done (by kernel_rfl) (NoPanic.normal ?_) _
    clear hHeld hv0 hv1 hf0 hf1
    go_wp2
    go_ret
    obtain ⟨⟨R', hP'⟩, hbf, hsf⟩ := HF.out
    refine ⟨rfl, ⟨R', _, _, _, _, m, hP', fun k hk => ?_, by omega, hsf⟩, hbf⟩
    have h1 := hu k hk
    have h2 := hu 1 (by omega)
    unfold at2; split <;> omega
end Go.Proofs.Ytlidjenkicgldaa
