/-
  Layer 4: plays: Load.
-/
import Derived.Test.YtlidjenkicgldaaUc
import Derived.BigQuiet
namespace Go.Proofs.Ytlidjenkicgldaa
open Go.RowKit

set_option maxRecDepth 100000 in
set_option maxHeartbeats 8000000 in
theorem plays_load {w : World} {B P n K : Nat} (h : St w B P n K) (hK : K ≤ 100) (W N : Int) (pd pk : Option Addr) (ld cd lk ck : Nat) :
    Calls Try.prog 26 #[.pointer (some ⟨P, 0, none⟩), .agg #[.int .i64 8, .int .i64 W, .int .i64 N, .slice pd ld cd, .slice pk lk ck]] w fun e0 w' => e0 = .returned (.bool true) ∧ St w' B P n (K + 1) ∧ Below B w w' := by
  obtain ⟨R, x, y, e, u, m, hp, hu, hm, hB⟩ := h
  have t2 := tmod2 W
  have e2 := sl2_is W
  have l2 := sl2_lt W
  go_enter Try.func26, Try.ntmps26
  go_wp2
  rw [e2]
  have HH0 : Hid (Pr w R B P x y n e u e u m) := hp
  have HBx : Hid (Below w.heap.size w (w.alloc (.cells #[.int .i64 8, .int .i64 W, .int .i64 N, .slice pd ld cd, .slice pk lk ck] 61)) ∧ (w.alloc (.cells #[.int .i64 8, .int .i64 W, .int .i64 N, .slice pd ld cd, .slice pk lk ck] 61)).heap[w.heap.size]? = some (.cells #[.int .i64 8, .int .i64 W, .int .i64 N, .slice pd ld cd, .slice pk lk ck] 61 (0, 0))) := ⟨below_alloc w _, heap_alloc_new w _⟩
  have HZ : Hid (R w.heap.size = 0) := hp.hi _ (Nat.le_refl _)
  clear hp t2 e2
  revert HBx l2
  generalize sl2 W = i
  generalize w.alloc (.cells #[.int .i64 8, .int .i64 W, .int .i64 N, .slice pd ld cd, .slice pk lk ck] 61) = w1
  intro l2 HBx
  have HH1 : Hid (Pr w1 R B P x y n e u e u m) := HH0.out.later HBx.out.1
  have HBo : Hid (Box w1 w.heap.size 8 W N (.slice pd ld cd) (.slice pk lk ck)) := HBx.out.2
  have s1 := HBx.out.1.size
  have HB1 : Hid (Below w.heap.size w w1) := HBx.out.1
  have hul : (u i).length ≤ 100 := by have := hu i l2; omega
  clear HBx HH0
  have c0 := HH1.out.cx i l2
  have c1 := HH1.out.cy i l2
  have d0 : w1.drew.cell? ⟨P, i, none⟩ = some (.pointer (some ⟨x i, 0, none⟩)) := c0
  have d1 : w1.drew.cell? ⟨P, 2 + i, none⟩ = some (.pointer (some ⟨y i, 0, none⟩)) := c1
  go_quiet (fail)
  have HH : Hid (Pr (w1.drewN nq) R B P x y n e u e u m) := HH1.out.later (below_drawn nq)
  have HX : Hid (Box (w1.drewN nq) w.heap.size 8 W N (.slice pd ld cd) (.slice pk lk ck)) := HBo.out.later (below_drawn nq)
  have HB2 : Hid (Below w.heap.size w (w1.drewN nq)) := below_then HB1.out (below_drawn nq)
  have hs2 : w.heap.size ≤ (w1.drewN nq).heap.size := s1
  clear c0 c1 d0 d1 HH1 HBo HB1 s1
  revert HH HX HB2 hs2
  generalize w1.drewN nq = w2
  intro HH HX HB2 hs2
  have hB2 : B ≤ w2.heap.size := by omega
  obtain ⟨b0, b1, b2, b3, b4⟩ := HX.out.at
  clear b1 b2 b3 b4
  rcases (show i = 0 ∨ i = 1 by omega) with rfl | rfl
  · obtain ⟨gr, Lr, cr, vr, vsr, hrd⟩ := HH.out.ref 0 l2
    have r0 := hrd.cell0
    have HY : Hid (Bytes (e 0) ∧ Lr = 64 * n ∧ 1 ≤ n) := ⟨hrd.db, hrd.hL, hrd.n1⟩
    have hn2 := hrd.n2
    have hLr : Lr ≤ 262144 := by have := hrd.hL; omega
    obtain ⟨hin, hlc, _⟩ := own_bin hrd.dur hrd.db
    have HR2 : Hid (w2.cell? ⟨y 0, 0, none⟩ = some (.slice (some ⟨gr, 0, none⟩) Lr cr) ∧ BIn w2 (some ⟨gr, 0, none⟩) Lr (e 0)) := ⟨r0, hin⟩
    clear hrd
    go_wp2_with fail
    refine (marked_any (some ⟨gr, 0, none⟩) Lr cr (e 0) w2 hin (fun h => by cases h) hlc (by omega)).mono ?_
    rintro e1 w3 ⟨gm, cm, rfl, hmo, hcm, hb3⟩
    obtain ⟨hinm, h90, h91⟩ := marked_in hmo hin.len HY.out.1
    have hmr := marked_row hmo
    have hgm := hmr.2
    have hgl := hmr.1.lt
    have hs3 := hb3.size
    have HM3 : Hid (BIn w3 (some ⟨gm, 0, none⟩) Lr (e 0) ∧ w3.cell? ⟨gm, Lr, none⟩ = some (.int .u8 90) ∧ w3.cell? ⟨gm, Lr + 1, none⟩ = some (.int .u8 90) ∧ Blk w3 gm 5 cm) := ⟨hinm, h90, h91, hmr.1⟩
    clear hmo hinm h90 h91 hmr r0 b0
    go_wp2_with fail
    refine (load_good gm 0 Lr cm n (e 0) w3 HM3.out.1 HY.out.2.1 (by omega) HY.out.2.2 hn2).mono ?_
    rintro e1 w4 ⟨p, rfl, hd, hb4⟩
    have hs4 := hb4.size
    have r1 := (hb4.cell (p := ⟨y 0, 0, none⟩) (Nat.lt_of_lt_of_le (World.block_lt_of_cell? w2 _ HR2.out.1) hs3)).trans ((hb3.cell (p := ⟨y 0, 0, none⟩) (World.block_lt_of_cell? w2 _ HR2.out.1)).trans HR2.out.1)
    go_wp2_with fail
    refine (rload_good gr 0 Lr cr n (e 0) w4 ((hin.later hb3).later hb4) HY.out.2.1 HY.out.2.2 hn2).mono ?_
    rintro e1 w5 ⟨q, rfl, hr, hb5⟩
    have hs5 := hb5.size
    have hb25 : Below w2.heap.size w2 w5 := below_then (below_then hb3 hb4) hb5
    have hb35 : Below w3.heap.size w3 w5 := below_then hb4 hb5
    have r2 := (hb25.cell (p := ⟨y 0, 0, none⟩) (World.block_lt_of_cell? w2 _ HR2.out.1)).trans HR2.out.1
    have HM5 : Hid (BIn w5 (some ⟨gm, 0, none⟩) Lr (e 0) ∧ w5.cell? ⟨gm, Lr, none⟩ = some (.int .u8 90) ∧ w5.cell? ⟨gm, Lr + 1, none⟩ = some (.int .u8 90) ∧ Blk w5 gm 5 cm ∧ BIn w5 (some ⟨gr, 0, none⟩) Lr (e 0)) := ⟨HM3.out.1.later hb35, (cell_same (hb35.block gm hgl)).trans HM3.out.2.1, (cell_same (hb35.block gm hgl)).trans HM3.out.2.2.1, HM3.out.2.2.2.same (hb35.block gm hgl), hin.later hb25⟩
    have HF5 : Hid (Dsk w5 (fun k => w3.heap.size ≤ k ∧ k < w4.heap.size) p n (e 0) [] ∧ Ref w5 (fun k => w4.heap.size ≤ k) q n (e 0) [] ∧ Below w2.heap.size w2 w5) := ⟨(hd.mono (fun k h1 h2 => ⟨h2, h1⟩)).later hb5, hr, hb25⟩
    clear hd hr hb3 hb4 hb5 hb25 hb35 hin HR2 HM3 r1
    go_wp2_with fail
    refine (held_any gm Lr cm cr (some ⟨gr, 0, none⟩) (e 0) w5 HM5.out.1 HM5.out.2.1 HM5.out.2.2.1 hcm (by omega) HM5.out.2.2.2.2).mono ?_
    rintro e1 w6 ⟨rfl, nq, rfl⟩
    have HM6 : Hid (Blk (w5.drewN nq) gm 5 cm) := HM5.out.2.2.2.1
    have HF6 : Hid (Dsk (w5.drewN nq) (fun k => w3.heap.size ≤ k ∧ k < w4.heap.size) p n (e 0) [] ∧ Ref (w5.drewN nq) (fun k => w4.heap.size ≤ k) q n (e 0) [] ∧ Below w2.heap.size w2 (w5.drewN nq)) := ⟨HF5.out.1.later (below_drawn nq), HF5.out.2.1.later (below_drawn nq), HF5.out.2.2.trans (below_drawn nq)⟩
    have hs6 : w5.heap.size ≤ (w5.drewN nq).heap.size := Nat.le_refl _
    clear HM5 HF5 r2
    revert HM6 HF6 hs6
    generalize w5.drewN nq = w6
    intro HM6 HF6 hs6
    go_wp2
    go_loopw [408] (fun v wr => ∃ k : Nat, k ≤ Lr ∧ v = .int .i64 k ∧ Hid (Kept (fun q => q = gm) w6 wr ∧ Blk wr gm 5 cm)) (fun v _ => Lr - (intOf v).toNat)
    case atStart => exact ⟨0, Nat.zero_le _, rfl, Kept.refl _ _, HM6.out⟩
    case round =>
      obtain ⟨k, hk, rfl, HR⟩ := hrel
      by_cases hlt : k < Lr
      · obtain ⟨v0, hv0⟩ := HR.out.2.some k (by omega)
        have hf := HR.out.2.free k
        have HN : Hid (Kept (fun q => q = gm) w6 (wr.setCell ⟨gm, k, none⟩ (.int .u8 71)) ∧ Blk (wr.setCell ⟨gm, k, none⟩ (.int .u8 71)) gm 5 cm) := ⟨HR.out.1.setCell (fun _ => rfl) _, HR.out.2.setCell _⟩
        clear HR
        go_wp2
        go_roundw
        case rel => exact ⟨k + 1, by omega, by go_num, HN.out⟩
        case measure => simp [intOf]; omega
      · have hsr := HR.out.1.size
        have hdr : Dsk wr (fun k => w3.heap.size ≤ k ∧ k < w4.heap.size) p n (e 0) [] := HF6.out.1.kept HR.out.1 (fun k h1 h2 => by omega)
        have hrr : Ref wr (fun k => w4.heap.size ≤ k) q n (e 0) [] := HF6.out.2.1.kept HR.out.1 (fun k h1 h2 => by omega)
        have hbr : Below w2.heap.size w2 wr := HF6.out.2.2.trans (HR.out.1.below (by omega) (fun k hk => by omega))
        have hbP : Blk wr P 58 6 := HH.out.blk.same (hbr.block P HH.out.blk.lt)
        obtain ⟨v0, hv0⟩ := hbP.some 1 (by omega)
        have hf0 := hbP.free 1
        have hbP2 := hbP.setCell (g' := P) (o := 1) (.pointer (some ⟨p, 0, none⟩))
        obtain ⟨v1, hv1⟩ := hbP2.some 3 (by omega)
        have hf1 := hbP2.free 3
        have cj : ((wr.setCell ⟨P, 1, none⟩ (.pointer (some ⟨p, 0, none⟩))).setCell ⟨P, 3, none⟩ (.pointer (some ⟨q, 0, none⟩))).cell? ⟨P, 1, none⟩ = some (.pointer (some ⟨p, 0, none⟩)) := by
          rw [World.cell?_setCell_other _ _ _ _ (by intro e; simp only [Addr.mk.injEq] at e; omega)]; exact World.cell?_setCell_same _ _ _ hv0
        have HF : Hid ((∃ R', Pr ((wr.setCell ⟨P, 1, none⟩ (.pointer (some ⟨p, 0, none⟩))).setCell ⟨P, 3, none⟩ (.pointer (some ⟨q, 0, none⟩))) R' B P (at2 x 1 p) (at2 y 1 q) n (at2 e 1 (e 0)) (at2 u 1 []) (at2 e 1 (e 0)) (at2 u 1 []) m) ∧ Below B w ((wr.setCell ⟨P, 1, none⟩ (.pointer (some ⟨p, 0, none⟩))).setCell ⟨P, 3, none⟩ (.pointer (some ⟨q, 0, none⟩))) ∧ B ≤ ((wr.setCell ⟨P, 1, none⟩ (.pointer (some ⟨p, 0, none⟩))).setCell ⟨P, 3, none⟩ (.pointer (some ⟨q, 0, none⟩))).heap.size) := by
          have hPB : B ≤ P := HH.out.beyond (by rw [HH.out.rp]; omega)
          refine ⟨HH.out.swap (j := 1) (by omega) hbr hdr hrr (fun k h => by have := h.1; omega) (fun k h => by omega) (fun k h1 h2 => by omega) (by simp [World.setCell]) (fun k hk => (heap_setCell_other _ _ _ _ hk).trans (heap_setCell_other _ _ _ _ hk)) (hbP2.setCell _) (fun o h1 h2 => ?_) cj (World.cell?_setCell_same _ _ _ hv1) hB2, ?_, by simp [World.setCell]; omega⟩
          · rw [World.cell?_setCell_other _ _ _ _ (by intro e; simp only [Addr.mk.injEq] at e; omega), World.cell?_setCell_other _ _ _ _ (by intro e; simp only [Addr.mk.injEq] at e; omega)]
          · exact (((HB2.out.mono hB).trans (hbr.mono hB2)).setCell hPB _).setCell hPB _
        clear hbP hbP2 hdr hrr hbr cj HR
        have hw0 : IntKind.i64.wrap 0 = 0 := by rw [IntKind.wrap_i64]; omega
        have hw1 : IntKind.i64.wrap 1 = 1 := by rw [IntKind.wrap_i64]; omega
        go_wp2
        refine wp_region_noPanic ?_
        refine wp_region_held_drew (S := fun _ => True) (by kernel_rfl) trivial (fun hHeld => ?_)
        refine wpAnyH_take (i := 0) (v := ?v0s0) (by simp; rfl) (by kernel_rfl) (by kernel_rfl) (by kernel_rfl) (fun _ _ _ h => h) (Or.inl ⟨by rfl, ?y0s0⟩) hHeld ?r0s0
        case y0s0 => intro w hSw; clear hSw; go_simp; with_reducible rfl
        simp only [Act.put, List.setIfInBounds_toArray, List.set_cons_zero, List.set_cons_succ]
        refine wpAnyH_take (i := 1) (v := ?v1s0) (by simp; rfl) (by kernel_rfl) (by kernel_rfl) (by kernel_rfl) (fun _ _ _ h => h) (Or.inl ⟨by rfl, ?y1s0⟩) hHeld ?r1s0
        case y1s0 => intro w hSw; clear hSw; go_simp; with_reducible rfl
        simp only [Act.put, List.setIfInBounds_toArray, List.set_cons_zero, List.set_cons_succ]
        refine wpAnyH_take (i := 2) (v := ?v2s0) (by simp; rfl) (by kernel_rfl) (by kernel_rfl) (by kernel_rfl) (fun _ _ _ h => h) (Or.inl ⟨by rfl, ?y2s0⟩) hHeld ?r2s0
        case y2s0 => intro w hSw; clear hSw; go_simp; with_reducible rfl
        simp only [Act.put, List.setIfInBounds_toArray, List.set_cons_zero, List.set_cons_succ]
        refine wpAnyH_take (i := 3) (v := ?v3s0) (by simp; rfl) (by kernel_rfl) (by kernel_rfl) (by kernel_rfl) (fun _ _ _ h => h) (Or.inl ⟨by rfl, ?y3s0⟩) hHeld ?r3s0
        case y3s0 => intro w hSw; clear hSw; go_simp; with_reducible rfl
        simp only [Act.put, List.setIfInBounds_toArray, List.set_cons_zero, List.set_cons_succ]
        refine wpAnyH_take (i := 4) (v := ?v4s0) (by simp; rfl) (by kernel_rfl) (by kernel_rfl) (by kernel_rfl) (fun _ _ _ h => h) (Or.inl ⟨by rfl, ?y4s0⟩) hHeld ?r4s0
        case y4s0 => intro w hSw; clear hSw; go_simp; with_reducible rfl
        simp only [Act.put, List.setIfInBounds_toArray, List.set_cons_zero, List.set_cons_succ]
        refine wpAnyH_take (i := 5) (v := ?v5s0) (by simp; rfl) (by kernel_rfl) (by kernel_rfl) (by kernel_rfl) (fun _ _ _ h => h) (Or.inl ⟨by rfl, ?y5s0⟩) hHeld ?r5s0
        case y5s0 => intro w hSw; clear hSw; go_simp; with_reducible rfl
        simp only [Act.put, List.setIfInBounds_toArray, List.set_cons_zero, List.set_cons_succ]
        refine wpAnyH_take (i := 6) (v := ?v6s0) (by simp; rfl) (by kernel_rfl) (by kernel_rfl) (by kernel_rfl) (fun _ _ _ h => h) (Or.inl ⟨by rfl, ?y6s0⟩) hHeld ?r6s0
        case y6s0 => intro w hSw; clear hSw; go_simp; with_reducible rfl
        simp only [Act.put, List.setIfInBounds_toArray, List.set_cons_zero, List.set_cons_succ]
        refine wpAnyH_take (i := 7) (v := ?v7s0) (by simp; rfl) (by kernel_rfl) (by kernel_rfl) (by kernel_rfl) (fun _ _ _ h => h) (Or.inl ⟨by rfl, ?y7s0⟩) hHeld ?r7s0
        case y7s0 => intro w hSw; clear hSw; go_simp; with_reducible rfl
        simp only [Act.put, List.setIfInBounds_toArray, List.set_cons_zero, List.set_cons_succ]
        refine wpAnyH_take (i := 8) (v := ?v8s0) (by simp; rfl) (by kernel_rfl) (by kernel_rfl) (by kernel_rfl) (fun _ _ _ h => h) (Or.inl ⟨by rfl, ?y8s0⟩) hHeld ?r8s0
        case y8s0 => intro w hSw; clear hSw; go_simp; with_reducible rfl
        simp only [Act.put, List.setIfInBounds_toArray, List.set_cons_zero, List.set_cons_succ]
        refine wpAnyH_take (i := 9) (v := ?v9s0) (by simp; rfl) (by kernel_rfl) (by kernel_rfl) (by kernel_rfl) (fun _ _ _ h => h) (Or.inl ⟨by rfl, ?y9s0⟩) hHeld ?r9s0
        case y9s0 => intro w hSw; clear hSw; go_simp; with_reducible rfl
        simp only [Act.put, List.setIfInBounds_toArray, List.set_cons_zero, List.set_cons_succ]
        refine wpAnyH_take (i := 12) (v := ?v12s0) (by simp; rfl) (by kernel_rfl) (by kernel_rfl) (by kernel_rfl) (fun _ _ _ h => h) (Or.inl ⟨by rfl, ?y12s0⟩) hHeld ?r12s0
        case y12s0 => intro w hSw; clear hSw; go_simp; with_reducible rfl
        simp only [Act.put, List.setIfInBounds_toArray, List.set_cons_zero, List.set_cons_succ]
        refine wpAnyH_take (i := 13) (v := ?v13s0) (by simp; rfl) (by kernel_rfl) (by kernel_rfl) (by kernel_rfl) (fun _ _ _ h => h) (Or.inl ⟨by rfl, ?y13s0⟩) hHeld ?r13s0
        case y13s0 => intro w hSw; clear hSw; go_simp; with_reducible rfl
        simp only [Act.put, List.setIfInBounds_toArray, List.set_cons_zero, List.set_cons_succ]
        refine wpAnyH_take (i := 10) (v := ?v10s0) (by simp; rfl) (by kernel_rfl) (by kernel_rfl) (by kernel_rfl) (fun _ _ _ h => h) (Or.inl ⟨by rfl, ?y10s0⟩) hHeld ?r10s0
        case y10s0 => intro w hSw; clear hSw; go_simp; with_reducible rfl
        simp only [Act.put, List.setIfInBounds_toArray, List.set_cons_zero, List.set_cons_succ]
        refine wpAnyH_ready (rs := [11]) (by kernel_rfl) (by simp) ?_
        refine AllReadyH.cons (by simp; rfl) (fun Kc hKc => ?_) AllReadyH.nil
        go_simp
        refine hKc.out _ _ trivial (fun hHeld => ?_)
        clear hKc Kc
        refine wpAnyH_take (i := 14) (v := ?v14s0) (by simp; rfl) (by kernel_rfl) (by kernel_rfl) (by kernel_rfl) (fun _ _ _ h => h) (Or.inl ⟨by rfl, ?y14s0⟩) hHeld ?r14s0
        case y14s0 => intro w hSw; clear hSw; go_simp; with_reducible rfl
        simp only [Act.put, List.setIfInBounds_toArray, List.set_cons_zero, List.set_cons_succ]
        refine wpAnyH_ready (rs := [15]) (by kernel_rfl) (by simp) ?_
        refine AllReadyH.cons (by simp; rfl) (fun Kc hKc => ?_) AllReadyH.nil
        go_simp
        refine hKc.out _ _ trivial (fun hHeld => ?_)
        clear hKc Kc
        refine wpAnyH_done (by kernel_rfl) (NoPanic.normal ?_) _
        clear hHeld hv0 hv1 hf0 hf1
        go_wp2
        go_ret
        obtain ⟨⟨R', hP'⟩, hbf, hsf⟩ := HF.out
        have HD : Below B w (((wr.setCell ⟨P, 1, none⟩ (.pointer (some ⟨p, 0, none⟩))).setCell ⟨P, 3, none⟩ (.pointer (some ⟨q, 0, none⟩))).drew) := ⟨hbf.os, hbf.tape, hbf.output, hbf.size, hbf.block⟩
        refine ⟨rfl, ⟨R', _, _, _, _, m, hP'.later (show Below _ _ ((wr.setCell ⟨P, 1, none⟩ (.pointer (some ⟨p, 0, none⟩))).setCell ⟨P, 3, none⟩ (.pointer (some ⟨q, 0, none⟩))).drew from ⟨rfl, rfl, rfl, Nat.le_refl _, fun _ _ => rfl⟩), fun k hk => ?_, by omega, hsf⟩, HD⟩
        have h1 := hu k hk
        unfold at2; split
        · simp
        · omega
  · obtain ⟨gr, Lr, cr, vr, vsr, hrd⟩ := HH.out.ref 1 l2
    have r0 := hrd.cell0
    have HY : Hid (Bytes (e 1) ∧ Lr = 64 * n ∧ 1 ≤ n) := ⟨hrd.db, hrd.hL, hrd.n1⟩
    have hn2 := hrd.n2
    have hLr : Lr ≤ 262144 := by have := hrd.hL; omega
    obtain ⟨hin, hlc, _⟩ := own_bin hrd.dur hrd.db
    have HR2 : Hid (w2.cell? ⟨y 1, 0, none⟩ = some (.slice (some ⟨gr, 0, none⟩) Lr cr) ∧ BIn w2 (some ⟨gr, 0, none⟩) Lr (e 1)) := ⟨r0, hin⟩
    clear hrd
    go_wp2_with fail
    refine (marked_any (some ⟨gr, 0, none⟩) Lr cr (e 1) w2 hin (fun h => by cases h) hlc (by omega)).mono ?_
    rintro e1 w3 ⟨gm, cm, rfl, hmo, hcm, hb3⟩
    obtain ⟨hinm, h90, h91⟩ := marked_in hmo hin.len HY.out.1
    have hmr := marked_row hmo
    have hgm := hmr.2
    have hgl := hmr.1.lt
    have hs3 := hb3.size
    have HM3 : Hid (BIn w3 (some ⟨gm, 0, none⟩) Lr (e 1) ∧ w3.cell? ⟨gm, Lr, none⟩ = some (.int .u8 90) ∧ w3.cell? ⟨gm, Lr + 1, none⟩ = some (.int .u8 90) ∧ Blk w3 gm 5 cm) := ⟨hinm, h90, h91, hmr.1⟩
    clear hmo hinm h90 h91 hmr r0 b0
    go_wp2_with fail
    refine (load_good gm 0 Lr cm n (e 1) w3 HM3.out.1 HY.out.2.1 (by omega) HY.out.2.2 hn2).mono ?_
    rintro e1 w4 ⟨p, rfl, hd, hb4⟩
    have hs4 := hb4.size
    have r1 := (hb4.cell (p := ⟨y 1, 0, none⟩) (Nat.lt_of_lt_of_le (World.block_lt_of_cell? w2 _ HR2.out.1) hs3)).trans ((hb3.cell (p := ⟨y 1, 0, none⟩) (World.block_lt_of_cell? w2 _ HR2.out.1)).trans HR2.out.1)
    go_wp2_with fail
    refine (rload_good gr 0 Lr cr n (e 1) w4 ((hin.later hb3).later hb4) HY.out.2.1 HY.out.2.2 hn2).mono ?_
    rintro e1 w5 ⟨q, rfl, hr, hb5⟩
    have hs5 := hb5.size
    have hb25 : Below w2.heap.size w2 w5 := below_then (below_then hb3 hb4) hb5
    have hb35 : Below w3.heap.size w3 w5 := below_then hb4 hb5
    have r2 := (hb25.cell (p := ⟨y 1, 0, none⟩) (World.block_lt_of_cell? w2 _ HR2.out.1)).trans HR2.out.1
    have HM5 : Hid (BIn w5 (some ⟨gm, 0, none⟩) Lr (e 1) ∧ w5.cell? ⟨gm, Lr, none⟩ = some (.int .u8 90) ∧ w5.cell? ⟨gm, Lr + 1, none⟩ = some (.int .u8 90) ∧ Blk w5 gm 5 cm ∧ BIn w5 (some ⟨gr, 0, none⟩) Lr (e 1)) := ⟨HM3.out.1.later hb35, (cell_same (hb35.block gm hgl)).trans HM3.out.2.1, (cell_same (hb35.block gm hgl)).trans HM3.out.2.2.1, HM3.out.2.2.2.same (hb35.block gm hgl), hin.later hb25⟩
    have HF5 : Hid (Dsk w5 (fun k => w3.heap.size ≤ k ∧ k < w4.heap.size) p n (e 1) [] ∧ Ref w5 (fun k => w4.heap.size ≤ k) q n (e 1) [] ∧ Below w2.heap.size w2 w5) := ⟨(hd.mono (fun k h1 h2 => ⟨h2, h1⟩)).later hb5, hr, hb25⟩
    clear hd hr hb3 hb4 hb5 hb25 hb35 hin HR2 HM3 r1
    go_wp2_with fail
    refine (held_any gm Lr cm cr (some ⟨gr, 0, none⟩) (e 1) w5 HM5.out.1 HM5.out.2.1 HM5.out.2.2.1 hcm (by omega) HM5.out.2.2.2.2).mono ?_
    rintro e1 w6 ⟨rfl, nq, rfl⟩
    have HM6 : Hid (Blk (w5.drewN nq) gm 5 cm) := HM5.out.2.2.2.1
    have HF6 : Hid (Dsk (w5.drewN nq) (fun k => w3.heap.size ≤ k ∧ k < w4.heap.size) p n (e 1) [] ∧ Ref (w5.drewN nq) (fun k => w4.heap.size ≤ k) q n (e 1) [] ∧ Below w2.heap.size w2 (w5.drewN nq)) := ⟨HF5.out.1.later (below_drawn nq), HF5.out.2.1.later (below_drawn nq), HF5.out.2.2.trans (below_drawn nq)⟩
    have hs6 : w5.heap.size ≤ (w5.drewN nq).heap.size := Nat.le_refl _
    clear HM5 HF5 r2
    revert HM6 HF6 hs6
    generalize w5.drewN nq = w6
    intro HM6 HF6 hs6
    go_wp2
    go_loopw [408] (fun v wr => ∃ k : Nat, k ≤ Lr ∧ v = .int .i64 k ∧ Hid (Kept (fun q => q = gm) w6 wr ∧ Blk wr gm 5 cm)) (fun v _ => Lr - (intOf v).toNat)
    case atStart => exact ⟨0, Nat.zero_le _, rfl, Kept.refl _ _, HM6.out⟩
    case round =>
      obtain ⟨k, hk, rfl, HR⟩ := hrel
      by_cases hlt : k < Lr
      · obtain ⟨v0, hv0⟩ := HR.out.2.some k (by omega)
        have hf := HR.out.2.free k
        have HN : Hid (Kept (fun q => q = gm) w6 (wr.setCell ⟨gm, k, none⟩ (.int .u8 71)) ∧ Blk (wr.setCell ⟨gm, k, none⟩ (.int .u8 71)) gm 5 cm) := ⟨HR.out.1.setCell (fun _ => rfl) _, HR.out.2.setCell _⟩
        clear HR
        go_wp2
        go_roundw
        case rel => exact ⟨k + 1, by omega, by go_num, HN.out⟩
        case measure => simp [intOf]; omega
      · have hsr := HR.out.1.size
        have hdr : Dsk wr (fun k => w3.heap.size ≤ k ∧ k < w4.heap.size) p n (e 1) [] := HF6.out.1.kept HR.out.1 (fun k h1 h2 => by omega)
        have hrr : Ref wr (fun k => w4.heap.size ≤ k) q n (e 1) [] := HF6.out.2.1.kept HR.out.1 (fun k h1 h2 => by omega)
        have hbr : Below w2.heap.size w2 wr := HF6.out.2.2.trans (HR.out.1.below (by omega) (fun k hk => by omega))
        have hbP : Blk wr P 58 6 := HH.out.blk.same (hbr.block P HH.out.blk.lt)
        obtain ⟨v0, hv0⟩ := hbP.some 0 (by omega)
        have hf0 := hbP.free 0
        have hbP2 := hbP.setCell (g' := P) (o := 0) (.pointer (some ⟨p, 0, none⟩))
        obtain ⟨v1, hv1⟩ := hbP2.some 2 (by omega)
        have hf1 := hbP2.free 2
        have cj : ((wr.setCell ⟨P, 0, none⟩ (.pointer (some ⟨p, 0, none⟩))).setCell ⟨P, 2, none⟩ (.pointer (some ⟨q, 0, none⟩))).cell? ⟨P, 0, none⟩ = some (.pointer (some ⟨p, 0, none⟩)) := by
          rw [World.cell?_setCell_other _ _ _ _ (by intro e; simp only [Addr.mk.injEq] at e; omega)]; exact World.cell?_setCell_same _ _ _ hv0
        have HF : Hid ((∃ R', Pr ((wr.setCell ⟨P, 0, none⟩ (.pointer (some ⟨p, 0, none⟩))).setCell ⟨P, 2, none⟩ (.pointer (some ⟨q, 0, none⟩))) R' B P (at2 x 0 p) (at2 y 0 q) n (at2 e 0 (e 1)) (at2 u 0 []) (at2 e 0 (e 1)) (at2 u 0 []) m) ∧ Below B w ((wr.setCell ⟨P, 0, none⟩ (.pointer (some ⟨p, 0, none⟩))).setCell ⟨P, 2, none⟩ (.pointer (some ⟨q, 0, none⟩))) ∧ B ≤ ((wr.setCell ⟨P, 0, none⟩ (.pointer (some ⟨p, 0, none⟩))).setCell ⟨P, 2, none⟩ (.pointer (some ⟨q, 0, none⟩))).heap.size) := by
          have hPB : B ≤ P := HH.out.beyond (by rw [HH.out.rp]; omega)
          refine ⟨HH.out.swap (j := 0) (by omega) hbr hdr hrr (fun k h => by have := h.1; omega) (fun k h => by omega) (fun k h1 h2 => by omega) (by simp [World.setCell]) (fun k hk => (heap_setCell_other _ _ _ _ hk).trans (heap_setCell_other _ _ _ _ hk)) (hbP2.setCell _) (fun o h1 h2 => ?_) cj (World.cell?_setCell_same _ _ _ hv1) hB2, ?_, by simp [World.setCell]; omega⟩
          · rw [World.cell?_setCell_other _ _ _ _ (by intro e; simp only [Addr.mk.injEq] at e; omega), World.cell?_setCell_other _ _ _ _ (by intro e; simp only [Addr.mk.injEq] at e; omega)]
          · exact (((HB2.out.mono hB).trans (hbr.mono hB2)).setCell hPB _).setCell hPB _
        clear hbP hbP2 hdr hrr hbr cj HR
        have hw0 : IntKind.i64.wrap 0 = 0 := by rw [IntKind.wrap_i64]; omega
        have hw1 : IntKind.i64.wrap 1 = 1 := by rw [IntKind.wrap_i64]; omega
        go_wp2
        refine wp_region_noPanic ?_
        refine wp_region_held_drew (S := fun _ => True) (by kernel_rfl) trivial (fun hHeld => ?_)
        refine wpAnyH_take (i := 0) (v := ?v0s1) (by simp; rfl) (by kernel_rfl) (by kernel_rfl) (by kernel_rfl) (fun _ _ _ h => h) (Or.inl ⟨by rfl, ?y0s1⟩) hHeld ?r0s1
        case y0s1 => intro w hSw; clear hSw; go_simp; with_reducible rfl
        simp only [Act.put, List.setIfInBounds_toArray, List.set_cons_zero, List.set_cons_succ]
        refine wpAnyH_take (i := 1) (v := ?v1s1) (by simp; rfl) (by kernel_rfl) (by kernel_rfl) (by kernel_rfl) (fun _ _ _ h => h) (Or.inl ⟨by rfl, ?y1s1⟩) hHeld ?r1s1
        case y1s1 => intro w hSw; clear hSw; go_simp; with_reducible rfl
        simp only [Act.put, List.setIfInBounds_toArray, List.set_cons_zero, List.set_cons_succ]
        refine wpAnyH_take (i := 2) (v := ?v2s1) (by simp; rfl) (by kernel_rfl) (by kernel_rfl) (by kernel_rfl) (fun _ _ _ h => h) (Or.inl ⟨by rfl, ?y2s1⟩) hHeld ?r2s1
        case y2s1 => intro w hSw; clear hSw; go_simp; with_reducible rfl
        simp only [Act.put, List.setIfInBounds_toArray, List.set_cons_zero, List.set_cons_succ]
        refine wpAnyH_take (i := 3) (v := ?v3s1) (by simp; rfl) (by kernel_rfl) (by kernel_rfl) (by kernel_rfl) (fun _ _ _ h => h) (Or.inl ⟨by rfl, ?y3s1⟩) hHeld ?r3s1
        case y3s1 => intro w hSw; clear hSw; go_simp; with_reducible rfl
        simp only [Act.put, List.setIfInBounds_toArray, List.set_cons_zero, List.set_cons_succ]
        refine wpAnyH_take (i := 4) (v := ?v4s1) (by simp; rfl) (by kernel_rfl) (by kernel_rfl) (by kernel_rfl) (fun _ _ _ h => h) (Or.inl ⟨by rfl, ?y4s1⟩) hHeld ?r4s1
        case y4s1 => intro w hSw; clear hSw; go_simp; with_reducible rfl
        simp only [Act.put, List.setIfInBounds_toArray, List.set_cons_zero, List.set_cons_succ]
        refine wpAnyH_take (i := 5) (v := ?v5s1) (by simp; rfl) (by kernel_rfl) (by kernel_rfl) (by kernel_rfl) (fun _ _ _ h => h) (Or.inl ⟨by rfl, ?y5s1⟩) hHeld ?r5s1
        case y5s1 => intro w hSw; clear hSw; go_simp; with_reducible rfl
        simp only [Act.put, List.setIfInBounds_toArray, List.set_cons_zero, List.set_cons_succ]
        refine wpAnyH_take (i := 6) (v := ?v6s1) (by simp; rfl) (by kernel_rfl) (by kernel_rfl) (by kernel_rfl) (fun _ _ _ h => h) (Or.inl ⟨by rfl, ?y6s1⟩) hHeld ?r6s1
        case y6s1 => intro w hSw; clear hSw; go_simp; with_reducible rfl
        simp only [Act.put, List.setIfInBounds_toArray, List.set_cons_zero, List.set_cons_succ]
        refine wpAnyH_take (i := 7) (v := ?v7s1) (by simp; rfl) (by kernel_rfl) (by kernel_rfl) (by kernel_rfl) (fun _ _ _ h => h) (Or.inl ⟨by rfl, ?y7s1⟩) hHeld ?r7s1
        case y7s1 => intro w hSw; clear hSw; go_simp; with_reducible rfl
        simp only [Act.put, List.setIfInBounds_toArray, List.set_cons_zero, List.set_cons_succ]
        refine wpAnyH_take (i := 8) (v := ?v8s1) (by simp; rfl) (by kernel_rfl) (by kernel_rfl) (by kernel_rfl) (fun _ _ _ h => h) (Or.inl ⟨by rfl, ?y8s1⟩) hHeld ?r8s1
        case y8s1 => intro w hSw; clear hSw; go_simp; with_reducible rfl
        simp only [Act.put, List.setIfInBounds_toArray, List.set_cons_zero, List.set_cons_succ]
        refine wpAnyH_take (i := 9) (v := ?v9s1) (by simp; rfl) (by kernel_rfl) (by kernel_rfl) (by kernel_rfl) (fun _ _ _ h => h) (Or.inl ⟨by rfl, ?y9s1⟩) hHeld ?r9s1
        case y9s1 => intro w hSw; clear hSw; go_simp; with_reducible rfl
        simp only [Act.put, List.setIfInBounds_toArray, List.set_cons_zero, List.set_cons_succ]
        refine wpAnyH_take (i := 12) (v := ?v12s1) (by simp; rfl) (by kernel_rfl) (by kernel_rfl) (by kernel_rfl) (fun _ _ _ h => h) (Or.inl ⟨by rfl, ?y12s1⟩) hHeld ?r12s1
        case y12s1 => intro w hSw; clear hSw; go_simp; with_reducible rfl
        simp only [Act.put, List.setIfInBounds_toArray, List.set_cons_zero, List.set_cons_succ]
        refine wpAnyH_take (i := 13) (v := ?v13s1) (by simp; rfl) (by kernel_rfl) (by kernel_rfl) (by kernel_rfl) (fun _ _ _ h => h) (Or.inl ⟨by rfl, ?y13s1⟩) hHeld ?r13s1
        case y13s1 => intro w hSw; clear hSw; go_simp; with_reducible rfl
        simp only [Act.put, List.setIfInBounds_toArray, List.set_cons_zero, List.set_cons_succ]
        refine wpAnyH_take (i := 10) (v := ?v10s1) (by simp; rfl) (by kernel_rfl) (by kernel_rfl) (by kernel_rfl) (fun _ _ _ h => h) (Or.inl ⟨by rfl, ?y10s1⟩) hHeld ?r10s1
        case y10s1 => intro w hSw; clear hSw; go_simp; with_reducible rfl
        simp only [Act.put, List.setIfInBounds_toArray, List.set_cons_zero, List.set_cons_succ]
        refine wpAnyH_ready (rs := [11]) (by kernel_rfl) (by simp) ?_
        refine AllReadyH.cons (by simp; rfl) (fun Kc hKc => ?_) AllReadyH.nil
        go_simp
        refine hKc.out _ _ trivial (fun hHeld => ?_)
        clear hKc Kc
        refine wpAnyH_take (i := 14) (v := ?v14s1) (by simp; rfl) (by kernel_rfl) (by kernel_rfl) (by kernel_rfl) (fun _ _ _ h => h) (Or.inl ⟨by rfl, ?y14s1⟩) hHeld ?r14s1
        case y14s1 => intro w hSw; clear hSw; go_simp; with_reducible rfl
        simp only [Act.put, List.setIfInBounds_toArray, List.set_cons_zero, List.set_cons_succ]
        refine wpAnyH_ready (rs := [15]) (by kernel_rfl) (by simp) ?_
        refine AllReadyH.cons (by simp; rfl) (fun Kc hKc => ?_) AllReadyH.nil
        go_simp
        refine hKc.out _ _ trivial (fun hHeld => ?_)
        clear hKc Kc
        refine wpAnyH_done (by kernel_rfl) (NoPanic.normal ?_) _
        clear hHeld hv0 hv1 hf0 hf1
        go_wp2
        go_ret
        obtain ⟨⟨R', hP'⟩, hbf, hsf⟩ := HF.out
        have HD : Below B w (((wr.setCell ⟨P, 0, none⟩ (.pointer (some ⟨p, 0, none⟩))).setCell ⟨P, 2, none⟩ (.pointer (some ⟨q, 0, none⟩))).drew) := ⟨hbf.os, hbf.tape, hbf.output, hbf.size, hbf.block⟩
        refine ⟨rfl, ⟨R', _, _, _, _, m, hP'.later (show Below _ _ ((wr.setCell ⟨P, 0, none⟩ (.pointer (some ⟨p, 0, none⟩))).setCell ⟨P, 2, none⟩ (.pointer (some ⟨q, 0, none⟩))).drew from ⟨rfl, rfl, rfl, Nat.le_refl _, fun _ _ => rfl⟩), fun k hk => ?_, by omega, hsf⟩, HD⟩
        have h1 := hu k hk
        unfold at2; split
        · simp
        · omega
end Go.Proofs.Ytlidjenkicgldaa
