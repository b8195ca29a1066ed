/-
  Layer 9: plays: Over.
-/
import Derived.Test.YtmcpjokbkkfgfaaGreatDoorT30
import Derived.Test.YtmcpjokbkkfgfaaGreatDoorT22
import Derived.Test.YtmcpjokbkkfgfaaGreatDoorT12
import Derived.Test.YtmcpjokbkkfgfaaGreatDoorT19
import Derived.Test.YtmcpjokbkkfgfaaGreatDoorT20
namespace Go.Proofs.YtmcpjokbkkfgfaaGreatDoor
open Go.RowKit


theorem Wd.over {w0 w1 w2 w3 w4 : World} {R : Nat → Nat} {B P M k : Nat} {L x K y : Nat → Nat} {e : Nat → Sd} {bo : Nat → Int} (h : Wd w0 R B P M L x K y e e bo) {i j p' q' K1 K2 : Nat} (hi : i < M) (hj : j < 2) (hij : ∀ a, a < 2 → a ≠ j → a = i)
    (b1 : Below w0.heap.size w0 w1) (d1 : Dsk w1 (fun k => w0.heap.size ≤ k) p' (e i).g.sz (e i).d (e i).ws) (b2 : Below w1.heap.size w1 w2) (d2 : Ref w2 (fun k => w1.heap.size ≤ k) q' (e i).g.sz (e i).d (e i).ws)
    (b3 : Below w2.heap.size w2 w3) (hk1 : w2.heap.size ≤ K1) (g3 : GAt w3 K1 (some ⟨p', 0, none⟩) (e i).g) (b4 : Below w3.heap.size w3 w4) (hk2 : w3.heap.size ≤ K2) (g4 : HAt w4 K2 (some ⟨q', 0, none⟩) (e i).g (bo i))
    (hB : B ≤ w0.heap.size) (hl : ∀ i, i < M → (e i).ws.length ≤ k) (ht : Tab w0) (h1 : 1 < B) :
    Sq (((w4.setCell ⟨P, 2 + j, none⟩ (.pointer (some ⟨p', 0, none⟩))).setCell ⟨P, j, none⟩ (.pointer (some ⟨K1, 0, none⟩))).setCell ⟨P, 4 + j, none⟩ (.pointer (some ⟨K2, 0, none⟩))) B P 2 (k + 1) ∧
    Below B w0 (((w4.setCell ⟨P, 2 + j, none⟩ (.pointer (some ⟨p', 0, none⟩))).setCell ⟨P, j, none⟩ (.pointer (some ⟨K1, 0, none⟩))).setCell ⟨P, 4 + j, none⟩ (.pointer (some ⟨K2, 0, none⟩))) := by
  have s1 := b1.size
  have s2 := b2.size
  have s3 := b3.size
  have s4 := b4.size
  have hK1 := LAt.lt g3
  have hL := h.ls i hi
  have hR := h.rs i hi
  have b14 : Below w1.heap.size w1 w4 := below_then b2 (below_then b3 b4)
  have b24 : Below w2.heap.size w2 w4 := below_then b3 b4
  have b04 : Below w0.heap.size w0 w4 := below_then b1 b14
  have hPB : B ≤ P := h.beyond (by rw [h.rp]; omega)
  have bP : Blk w4 P 46 6 := h.blk.same (b04.block P h.blk.lt)
  have bP2 := bP.setCell (g' := P) (o := 2 + j) (.pointer (some ⟨p', 0, none⟩))
  have bP3 := bP2.setCell (g' := P) (o := j) (.pointer (some ⟨K1, 0, none⟩))
  obtain ⟨u0, hu0⟩ := bP.some (2 + j) (by omega)
  obtain ⟨u1, hu1⟩ := bP2.some j (by omega)
  obtain ⟨u2, hu2⟩ := bP3.some (4 + j) (by omega)
  have ls : LS w4 (fun k => (w0.heap.size ≤ k ∧ k < w1.heap.size) ∨ k = K1) K1 p' (e i) :=
    ⟨LAt.later g3 b4, (d1.mono (T := fun k => ((w0.heap.size ≤ k ∧ k < w1.heap.size) ∨ k = K1) ∧ k ≠ K1) (fun k hk hs => ⟨.inl ⟨hs, hk⟩, by omega⟩)).later b14, .inr rfl, hL.ok⟩
  have rs : RS w4 (fun k => (w1.heap.size ≤ k ∧ k < w2.heap.size) ∨ k = K2) K2 q' (e i) (bo i) :=
    ⟨g4, (d2.mono (T := fun k => ((w1.heap.size ≤ k ∧ k < w2.heap.size) ∨ k = K2) ∧ k ≠ K2) (fun k hk hs => ⟨.inl ⟨hs, hk⟩, by omega⟩)).later b24, .inr rfl, hR.ok, hR.bk⟩
  have bw : Below B w0 (((w4.setCell ⟨P, 2 + j, none⟩ (.pointer (some ⟨p', 0, none⟩))).setCell ⟨P, j, none⟩ (.pointer (some ⟨K1, 0, none⟩))).setCell ⟨P, 4 + j, none⟩ (.pointer (some ⟨K2, 0, none⟩))) := (((b04.mono hB).setCell hPB _).setCell hPB _).setCell hPB _
  obtain ⟨R', hR'⟩ := h.swap hj (fun a ha hne => by rw [hij a ha hne]; exact hi) (E := e i) (b := bo i) (L' := K1) (x' := p') (K' := K2) (y' := q') (w3 := ((w4.setCell ⟨P, 2 + j, none⟩ (.pointer (some ⟨p', 0, none⟩))).setCell ⟨P, j, none⟩ (.pointer (some ⟨K1, 0, none⟩))).setCell ⟨P, 4 + j, none⟩ (.pointer (some ⟨K2, 0, none⟩))) b04 ls rs
    (fun k hs => by rcases hs with hs | hs <;> omega) (fun k hs => by rcases hs with hs | hs <;> omega) (fun k ha hb => by rcases ha with ha | ha <;> rcases hb with hb | hb <;> omega)
    (by simp [World.setCell]) (fun k hk => ((heap_setCell_other _ _ _ _ hk).trans (heap_setCell_other _ _ _ _ hk)).trans (heap_setCell_other _ _ _ _ hk)) (bP3.setCell _)
    (fun o o1 o2 o3 => by
      rw [World.cell?_setCell_other _ _ _ _ (by intro q; simp only [Addr.mk.injEq] at q; omega), World.cell?_setCell_other _ _ _ _ (by intro q; simp only [Addr.mk.injEq] at q; omega), World.cell?_setCell_other _ _ _ _ (by intro q; simp only [Addr.mk.injEq] at q; omega)])
    (by rw [World.cell?_setCell_other _ _ _ _ (by intro q; simp only [Addr.mk.injEq] at q; omega)]; exact World.cell?_setCell_same _ _ _ hu1)
    (by rw [World.cell?_setCell_other _ _ _ _ (by intro q; simp only [Addr.mk.injEq] at q; omega), World.cell?_setCell_other _ _ _ _ (by intro q; simp only [Addr.mk.injEq] at q; omega)]; exact World.cell?_setCell_same _ _ _ hu0)
    (World.cell?_setCell_same _ _ _ hu2) hB
  refine ⟨⟨⟨R', _, _, _, _, _, _, hR', fun a ha => ?_, ?_⟩, ht.below h1 bw, h1⟩, bw⟩
  · by_cases c : a = j
    · subst c; rw [at2_same]; exact Nat.le_succ_of_le (hl i hi)
    · rw [at2_other _ _ _ _ c]; have ea := hij a ha c; subst ea; exact Nat.le_succ_of_le (hl a hi)
  · exact Nat.le_trans hB bw.size
set_option maxHeartbeats 4000000 in
set_option maxRecDepth 100000 in
theorem plays_over0 {w : World} {B P M k : Nat} (h : Sq w B P M k) (hk : k ≤ 100) (hi : 0 < M) (wh b : Int) (v : List Int) (pos : Int) (keep data : Value) (hs : sl2 wh = 0) :
    Calls Tryz.prog 9 #[.pointer (some ⟨P, 0, none⟩), .agg (ocells 8 wh b v pos keep data).toArray] w fun r w' => r = .returned (.bool true) ∧ Sq w' B P 2 (k + 1) ∧ Below B w w' := by
  have hB := h.B
  have t2 := tmod2 wh
  have E2 : Hid ((wh.tmod 2 + 2) % 2 = 0) := (by have := sl2_is wh; rw [hs] at this; omega : (wh.tmod 2 + 2) % 2 = 0)
  have e2 : wh.tmod 2 % 2 = 0 := by have := sl2_is wh; rw [hs] at this; omega
  obtain ⟨w0, hw0⟩ : ∃ x, x = w.alloc (.cells (ocells 8 wh b v pos keep data).toArray 53) := ⟨_, rfl⟩
  have ew := hw0.symm
  have b0 : Below w.heap.size w w0 := by rw [hw0]; exact below_alloc w _
  have O0 : OAt w0 w.heap.size 8 wh b v pos keep data := by rw [hw0]; exact LAt.new 53 w _
  have HQ0 : Hid (Sq w0 B P M k) := h.later b0
  have HB0 : Hid (Below w.heap.size w w0) := b0
  have HBB : Hid (B ≤ w0.heap.size) := Nat.le_trans hB b0.size
  have ckd := OAt.kind O0
  have cwh := OAt.which O0
  obtain ⟨⟨R', L, x, K, y, e, bo, hW, hl, -⟩, ht, hb1⟩ := HQ0.out
  have c0 : w0.cell? ⟨P, 0, none⟩ = some (.pointer (some ⟨L 0, 0, none⟩)) := hW.cl 0 hi
  have c1 : w0.cell? ⟨P, 2, none⟩ = some (.pointer (some ⟨x 0, 0, none⟩)) := hW.cd 0 hi
  have c2 : w0.cell? ⟨P, 4, none⟩ = some (.pointer (some ⟨K 0, 0, none⟩)) := hW.cr 0 hi
  have M1 : Hid (P < w0.heap.size) := hW.blk.lt
  have HW : Hid (Wd w0 R' B P M L x K y e e bo) := hW
  have HLS : Hid (LD w0 (fun k => R' k = 1 + 0) (L 0) (x 0) (e 0).d (e 0).ws (e 0).g) := hW.ls 0 hi
  have HRR : Hid (RL w0 (fun k => R' k = 3 + 0) (K 0) (y 0) (e 0).d (e 0).ws (e 0).g (bo 0)) := hW.rs 0 hi
  have HT0 : Hid (Tab w0) := ht
  have H1 : Hid (1 < B) := hb1
  have HL : Hid (∀ i, i < M → (e i).ws.length ≤ k) := hl
  have hle : (e 0).ws.length ≤ 100000 := by have := hl 0 hi; omega
  clear hw0 b0 O0 h hW hl ht hb1 hs HQ0
  go_enter Tryz.func9, Tryz.ntmps9
  go_wp2_with fail
  rw [E2.out]
  clear ew ckd cwh t2 e2 c1 E2
  refine (copy_any HLS.out.dsk hle).mono ?_
  rintro r1 w1 ⟨p', rfl, hd1, b1⟩
  have HD1 : Hid (Dsk w1 (fun k => w0.heap.size ≤ k) p' (e 0).g.sz (e 0).d (e 0).ws) := hd1
  have HB1 : Hid (Below w0.heap.size w0 w1) := b1
  have c2a := (b1.cell (p := ⟨P, 4, none⟩) M1.out).trans c2
  have cka := HAt.c0 (RL.later HRR.out b1).log
  clear hd1 b1
  go_wp2_with fail
  clear c2a cka
  refine (rcopy_any (RL.later HRR.out HB1.out).dsk hle).mono ?_
  rintro r2 w2 ⟨q', rfl, hd2, b2⟩
  have HD2 : Hid (Ref w2 (fun k => w1.heap.size ≤ k) q' (e 0).g.sz (e 0).d (e 0).ws) := hd2
  have HB2 : Hid (Below w1.heap.size w1 w2) := b2
  have HB02 : Hid (Below w0.heap.size w0 w2) := below_then HB1.out b2
  have c0b := (HB02.out.cell (p := ⟨P, 0, none⟩) M1.out).trans c0
  clear hd2 b2 c0
  go_wp2_with fail
  clear c0b
  refine (over_at (LAt.later HLS.out.log HB02.out) (some ⟨p', 0, none⟩)).mono ?_
  rintro r3 w3 ⟨K1, rfl, hk1, hG, b3⟩
  have HB3 : Hid (Below w2.heap.size w2 w3) := b3
  have HK1 : Hid (w2.heap.size ≤ K1) := hk1
  have HG3 : Hid (GAt w3 K1 (some ⟨p', 0, none⟩) (e 0).g) := hG
  have HB03 : Hid (Below w0.heap.size w0 w3) := below_then HB02.out b3
  have HRS : Hid (RL w3 (fun k => R' k = 3 + 0) (K 0) (y 0) (e 0).d (e 0).ws (e 0).g (bo 0)) := RL.later HRR.out HB03.out
  have HBk : Hid (Blk w3 P 46 6) := HW.out.blk.same (HB03.out.block P M1.out)
  have c2c := (HB03.out.cell (p := ⟨P, 4, none⟩) M1.out).trans c2
  clear hk1 hG b3 c2 HB02 HRR HLS
  go_wp2_with fail
  refine wp_region_noPanic ?_
  refine wp_region_held_drew (S := fun _ => True) (by kernel_rfl) trivial (fun hHeld => ?_)
  have HD3 : Hid (Below w3.heap.size w3 w3.drew) := below_drawn 1
  have HD4 : Hid (Below w3.heap.size w3 w3.drew) := below_drawn 1
  have c2d : w3.drew.cell? ⟨P, 4, none⟩ = some (.pointer (some ⟨K 0, 0, none⟩)) := c2c
  have HSz : Hid (w3.drew.heap.size ≤ w3.drew.heap.size) := Nat.le_refl _
  have wj : IntKind.i64.wrap 1 = 1 := by rw [IntKind.wrap_i64]; omega
  clear c2c
  generalize w3.drew = wd at *
  refine wpAnyH_take (i := 0) (v := ?va1) (by simp; rfl) (by kernel_rfl) (by kernel_rfl) (by kernel_rfl) (fun _ _ _ h => h) (Or.inl ⟨by rfl, ?ya1⟩) hHeld ?ra1
  case ya1 => intro w hSw; clear hSw; go_simp; with_reducible rfl
  simp only [Act.put, List.setIfInBounds_toArray, List.set_cons_zero, List.set_cons_succ]
  refine wpAnyH_take (i := 1) (v := ?va2) (by simp; rfl) (by kernel_rfl) (by kernel_rfl) (by kernel_rfl) (fun _ _ _ h => h) (Or.inl ⟨by rfl, ?ya2⟩) hHeld ?ra2
  case ya2 => intro w hSw; clear hSw; go_simp; with_reducible rfl
  simp only [Act.put, List.setIfInBounds_toArray, List.set_cons_zero, List.set_cons_succ]
  refine wpAnyH_take (i := 2) (v := ?va3) (by simp; rfl) (by kernel_rfl) (by kernel_rfl) (by kernel_rfl) (fun _ _ _ h => h) (Or.inl ⟨by rfl, ?ya3⟩) hHeld ?ra3
  case ya3 => intro w hSw; clear hSw; go_simp; with_reducible rfl
  simp only [Act.put, List.setIfInBounds_toArray, List.set_cons_zero, List.set_cons_succ]
  refine wpAnyH_take (i := 3) (v := ?va4) (by simp; rfl) (by kernel_rfl) (by kernel_rfl) (by kernel_rfl) (fun _ _ _ h => h) (Or.inl ⟨by rfl, ?ya4⟩) hHeld ?ra4
  case ya4 => intro w hSw; clear hSw; go_simp; with_reducible rfl
  simp only [Act.put, List.setIfInBounds_toArray, List.set_cons_zero, List.set_cons_succ]
  refine wpAnyH_take (i := 4) (v := ?va5) (by simp; rfl) (by kernel_rfl) (by kernel_rfl) (by kernel_rfl) (fun _ _ _ h => h) (Or.inl ⟨by rfl, ?ya5⟩) hHeld ?ra5
  case ya5 => intro w hSw; clear hSw; go_simp; with_reducible rfl
  simp only [Act.put, List.setIfInBounds_toArray, List.set_cons_zero, List.set_cons_succ]
  refine wpAnyH_take (i := 5) (v := ?va6) (by simp; rfl) (by kernel_rfl) (by kernel_rfl) (by kernel_rfl) (fun _ _ _ h => h) (Or.inl ⟨by rfl, ?ya6⟩) hHeld ?ra6
  case ya6 => intro w hSw; clear hSw; go_simp; with_reducible rfl
  simp only [Act.put, List.setIfInBounds_toArray, List.set_cons_zero, List.set_cons_succ]
  refine wpAnyH_take (i := 6) (v := ?va7) (by simp; rfl) (by kernel_rfl) (by kernel_rfl) (by kernel_rfl) (fun _ _ _ h => h) (Or.inl ⟨by rfl, ?ya7⟩) hHeld ?ra7
  case ya7 => intro w hSw; clear hSw; go_simp; with_reducible rfl
  simp only [Act.put, List.setIfInBounds_toArray, List.set_cons_zero, List.set_cons_succ]
  refine wpAnyH_take (i := 7) (v := ?va8) (by simp; rfl) (by kernel_rfl) (by kernel_rfl) (by kernel_rfl) (fun _ _ _ h => h) (Or.inl ⟨by rfl, ?ya8⟩) hHeld ?ra8
  case ya8 => intro w hSw; clear hSw; go_simp; with_reducible rfl
  simp only [Act.put, List.setIfInBounds_toArray, List.set_cons_zero, List.set_cons_succ]
  refine wpAnyH_take (i := 8) (v := ?va9) (by simp; rfl) (by kernel_rfl) (by kernel_rfl) (by kernel_rfl) (fun _ _ _ h => h) (Or.inl ⟨by rfl, ?ya9⟩) hHeld ?ra9
  case ya9 => intro w hSw; clear hSw; go_simp; with_reducible rfl
  simp only [Act.put, List.setIfInBounds_toArray, List.set_cons_zero, List.set_cons_succ]
  refine wpAnyH_take (i := 9) (v := ?va10) (by simp; rfl) (by kernel_rfl) (by kernel_rfl) (by kernel_rfl) (fun _ _ _ h => h) (Or.inl ⟨by rfl, ?ya10⟩) hHeld ?ra10
  case ya10 => intro w hSw; clear hSw; go_simp; with_reducible rfl
  simp only [Act.put, List.setIfInBounds_toArray, List.set_cons_zero, List.set_cons_succ]
  refine wpAnyH_take (i := 10) (v := ?va11) (by simp; rfl) (by kernel_rfl) (by kernel_rfl) (by kernel_rfl) (fun _ _ _ h => h) (Or.inl ⟨by rfl, ?ya11⟩) hHeld ?ra11
  case ya11 => intro w hSw; clear hSw; go_simp; with_reducible rfl
  simp only [Act.put, List.setIfInBounds_toArray, List.set_cons_zero, List.set_cons_succ]
  refine wpAnyH_take (i := 11) (v := ?va12) (by simp; rfl) (by kernel_rfl) (by kernel_rfl) (by kernel_rfl) (fun _ _ _ h => h) (Or.inl ⟨by rfl, ?ya12⟩) hHeld ?ra12
  case ya12 => intro w hSw; clear hSw; go_simp; with_reducible rfl
  simp only [Act.put, List.setIfInBounds_toArray, List.set_cons_zero, List.set_cons_succ]
  refine wpAnyH_take (i := 12) (v := ?va13) (by simp; rfl) (by kernel_rfl) (by kernel_rfl) (by kernel_rfl) (fun _ _ _ h => h) (Or.inl ⟨by rfl, ?ya13⟩) hHeld ?ra13
  case ya13 => intro w hSw; clear hSw; go_simp; with_reducible rfl
  simp only [Act.put, List.setIfInBounds_toArray, List.set_cons_zero, List.set_cons_succ]
  refine wpAnyH_take (i := 13) (v := ?va14) (by simp; rfl) (by kernel_rfl) (by kernel_rfl) (by kernel_rfl) (fun _ _ _ h => h) (Or.inl ⟨by rfl, ?ya14⟩) hHeld ?ra14
  case ya14 => intro w hSw; clear hSw; go_simp; with_reducible rfl
  simp only [Act.put, List.setIfInBounds_toArray, List.set_cons_zero, List.set_cons_succ]
  refine wpAnyH_take (i := 14) (v := ?va15) (by simp; rfl) (by kernel_rfl) (by kernel_rfl) (by kernel_rfl) (fun _ _ _ h => h) (Or.inl ⟨by rfl, ?ya15⟩) hHeld ?ra15
  case ya15 => intro w hSw; clear hSw; go_simp; with_reducible rfl
  simp only [Act.put, List.setIfInBounds_toArray, List.set_cons_zero, List.set_cons_succ]
  refine wpAnyH_take (i := 15) (v := ?va16) (by simp; rfl) (by kernel_rfl) (by kernel_rfl) (by kernel_rfl) (fun _ _ _ h => h) (Or.inl ⟨by rfl, ?ya16⟩) hHeld ?ra16
  case ya16 => intro w hSw; clear hSw; go_simp; with_reducible rfl
  simp only [Act.put, List.setIfInBounds_toArray, List.set_cons_zero, List.set_cons_succ]
  refine wpAnyH_take (i := 17) (v := ?va17) (by simp; rfl) (by kernel_rfl) (by kernel_rfl) (by kernel_rfl) (fun _ _ _ h => h) (Or.inl ⟨by rfl, ?ya17⟩) hHeld ?ra17
  case ya17 => intro w hSw; clear hSw; go_simp; with_reducible rfl
  simp only [Act.put, List.setIfInBounds_toArray, List.set_cons_zero, List.set_cons_succ]
  refine wpAnyH_take (i := 19) (v := ?va18) (by simp; rfl) (by kernel_rfl) (by kernel_rfl) (by kernel_rfl) (fun _ _ _ h => h) (Or.inl ⟨by rfl, ?ya18⟩) hHeld ?ra18
  case ya18 => intro w hSw; clear hSw; go_simp; with_reducible rfl
  simp only [Act.put, List.setIfInBounds_toArray, List.set_cons_zero, List.set_cons_succ]
  refine wpAnyH_take (i := 20) (v := ?va19) (by simp; rfl) (by kernel_rfl) (by kernel_rfl) (by kernel_rfl) (fun _ _ _ h => h) (Or.inl ⟨by rfl, ?ya19⟩) hHeld ?ra19
  case ya19 => intro w hSw; clear hSw; go_simp; with_reducible rfl
  simp only [Act.put, List.setIfInBounds_toArray, List.set_cons_zero, List.set_cons_succ]
  refine wpAnyH_take (i := 23) (v := ?va20) (by simp; rfl) (by kernel_rfl) (by kernel_rfl) (by kernel_rfl) (fun _ _ _ h => h) (Or.inl ⟨by rfl, ?ya20⟩) hHeld ?ra20
  case ya20 => intro w hSw; clear hSw; go_simp; with_reducible rfl
  simp only [Act.put, List.setIfInBounds_toArray, List.set_cons_zero, List.set_cons_succ]
  refine wpAnyH_take (i := 24) (v := ?va21) (by simp; rfl) (by kernel_rfl) (by kernel_rfl) (by kernel_rfl) (fun _ _ _ h => h) (Or.inl ⟨by rfl, ?ya21⟩) hHeld ?ra21
  case ya21 => intro w hSw; clear hSw; go_simp; with_reducible rfl
  simp only [Act.put, List.setIfInBounds_toArray, List.set_cons_zero, List.set_cons_succ]
  refine wpAnyH_take (i := 27) (v := ?va22) (by simp; rfl) (by kernel_rfl) (by kernel_rfl) (by kernel_rfl) (fun _ _ _ h => h) (Or.inl ⟨by rfl, ?ya22⟩) hHeld ?ra22
  case ya22 => intro w hSw; clear hSw; go_simp; with_reducible rfl
  simp only [Act.put, List.setIfInBounds_toArray, List.set_cons_zero, List.set_cons_succ]
  refine wpAnyH_take (i := 28) (v := ?va23) (by simp; rfl) (by kernel_rfl) (by kernel_rfl) (by kernel_rfl) (fun _ _ _ h => h) (Or.inl ⟨by rfl, ?ya23⟩) hHeld ?ra23
  case ya23 => intro w hSw; clear hSw; go_simp; with_reducible rfl
  simp only [Act.put, List.setIfInBounds_toArray, List.set_cons_zero, List.set_cons_succ]
  refine wpAnyH_ready (rs := [16]) (by kernel_rfl) (by simp) ?_
  refine AllReadyH.cons (by simp; rfl) (fun Kc hKc => ?_) AllReadyH.nil
  go_simp
  clear c2d
  refine hKc.out _ _ trivial (fun hHeld => ?_)
  clear hKc Kc
  refine wpAnyH_ready (rs := [18]) (by kernel_rfl) (by simp) ?_
  refine AllReadyH.cons (by simp; rfl) (fun Kc hKc => ?_) AllReadyH.nil
  go_simp
  refine (rover_at (LAt.later HRS.out.log HD4.out) (some ⟨q', 0, none⟩)).mono ?_
  rintro r4 w4 ⟨K2, rfl, hk2, hH, b4⟩
  have bP : Blk w4 P 46 6 := HBk.out.same ((below_then HD4.out b4).block P HBk.out.lt)
  obtain ⟨u0, hu0⟩ := bP.some 3 (by omega)
  have hf0 := bP.free 3
  have bP2 := bP.setCell (g' := P) (o := 3) (.pointer (some ⟨p', 0, none⟩))
  obtain ⟨u1, hu1⟩ := bP2.some 1 (by omega)
  have hf1 := bP2.free 1
  have bP3 := bP2.setCell (g' := P) (o := 1) (.pointer (some ⟨K1, 0, none⟩))
  obtain ⟨u2, hu2⟩ := bP3.some 5 (by omega)
  have hf2 := bP3.free 5
  have HF : Hid (Sq (((w4.setCell ⟨P, 3, none⟩ (.pointer (some ⟨p', 0, none⟩))).setCell ⟨P, 1, none⟩ (.pointer (some ⟨K1, 0, none⟩))).setCell ⟨P, 5, none⟩ (.pointer (some ⟨K2, 0, none⟩))) B P 2 (k + 1) ∧ Below B w0 (((w4.setCell ⟨P, 3, none⟩ (.pointer (some ⟨p', 0, none⟩))).setCell ⟨P, 1, none⟩ (.pointer (some ⟨K1, 0, none⟩))).setCell ⟨P, 5, none⟩ (.pointer (some ⟨K2, 0, none⟩)))) :=
    HW.out.over (i := 0) (j := 1) hi (by omega) (fun a h1 h2 => by omega) HB1.out HD1.out HB2.out HD2.out (below_then HB3.out HD3.out) HK1.out (LAt.later HG3.out HD3.out) b4 (Nat.le_trans HSz.out hk2) hH HBB.out HL.out HT0.out H1.out
  clear bP bP2 bP3 hH b4 hk2
  refine hKc.out _ _ trivial (fun hHeld => ?_)
  clear hKc Kc
  refine wpAnyH_take (i := 21) (v := ?va24) (by simp; rfl) (by kernel_rfl) (by kernel_rfl) (by kernel_rfl) (fun _ _ _ h => h) (Or.inl ⟨by rfl, ?ya24⟩) hHeld ?ra24
  case ya24 => intro w hSw; clear hSw; go_simp; with_reducible rfl
  simp only [Act.put, List.setIfInBounds_toArray, List.set_cons_zero, List.set_cons_succ]
  refine wpAnyH_ready (rs := [22]) (by kernel_rfl) (by simp) ?_
  refine AllReadyH.cons (by simp; rfl) (fun Kc hKc => ?_) AllReadyH.nil
  go_simp
  refine hKc.out _ _ trivial (fun hHeld => ?_)
  clear hKc Kc
  refine wpAnyH_take (i := 25) (v := ?va25) (by simp; rfl) (by kernel_rfl) (by kernel_rfl) (by kernel_rfl) (fun _ _ _ h => h) (Or.inl ⟨by rfl, ?ya25⟩) hHeld ?ra25
  case ya25 => intro w hSw; clear hSw; go_simp; with_reducible rfl
  simp only [Act.put, List.setIfInBounds_toArray, List.set_cons_zero, List.set_cons_succ]
  refine wpAnyH_ready (rs := [26]) (by kernel_rfl) (by simp) ?_
  refine AllReadyH.cons (by simp; rfl) (fun Kc hKc => ?_) AllReadyH.nil
  go_simp
  refine hKc.out _ _ trivial (fun hHeld => ?_)
  clear hKc Kc
  refine wpAnyH_take (i := 29) (v := ?va26) (by simp; rfl) (by kernel_rfl) (by kernel_rfl) (by kernel_rfl) (fun _ _ _ h => h) (Or.inl ⟨by rfl, ?ya26⟩) hHeld ?ra26
  case ya26 => intro w hSw; clear hSw; go_simp; with_reducible rfl
  simp only [Act.put, List.setIfInBounds_toArray, List.set_cons_zero, List.set_cons_succ]
  refine wpAnyH_ready (rs := [30]) (by kernel_rfl) (by simp) ?_
  refine AllReadyH.cons (by simp; rfl) (fun Kc hKc => ?_) AllReadyH.nil
  go_simp
  refine hKc.out _ _ trivial (fun hHeld => ?_)
  clear hKc Kc
  clear hHeld hu0 hu1 hu2 hf0 hf1 hf2
  refine wpAnyH_done (by kernel_rfl) (NoPanic.normal ?_) _
  have HF2 : Hid (_) := HF.out
  revert HF2
  generalize ((w4.setCell ⟨P, 3, none⟩ (.pointer (some ⟨p', 0, none⟩))).setCell ⟨P, 1, none⟩ (.pointer (some ⟨K1, 0, none⟩))).setCell ⟨P, 5, none⟩ (.pointer (some ⟨K2, 0, none⟩)) = w7
  intro HF2
  have HQz : Hid (Sq w7 B P 2 (k + 1)) := HF2.out.1
  have HBz : Hid (Below B w w7) := below_of HB0.out hB HF2.out.2
  clear HF HF2
  go_wp2_with fail
  refine (HQz.out.tells (i := 0) (by omega) (by omega)).mono ?_
  rintro r9 w9 ⟨rfl, b9⟩
  have HQ9 : Hid (Sq w9 B P 2 (k + 1)) := HQz.out.later b9
  have HB9 : Hid (Below B w w9) := HBz.out.trans (b9.mono HQz.out.B)
  clear b9 HQz HBz
  go_wp2_with fail
  go_ret
  exact ⟨rfl, HQ9.out, HB9.out⟩
set_option maxHeartbeats 4000000 in
set_option maxRecDepth 100000 in
theorem plays_over1 {w : World} {B P M k : Nat} (h : Sq w B P M k) (hk : k ≤ 100) (hi : 1 < M) (wh b : Int) (v : List Int) (pos : Int) (keep data : Value) (hs : sl2 wh = 1) :
    Calls Tryz.prog 9 #[.pointer (some ⟨P, 0, none⟩), .agg (ocells 8 wh b v pos keep data).toArray] w fun r w' => r = .returned (.bool true) ∧ Sq w' B P 2 (k + 1) ∧ Below B w w' := by
  have hB := h.B
  have t2 := tmod2 wh
  have E2 : Hid ((wh.tmod 2 + 2) % 2 = 1) := (by have := sl2_is wh; rw [hs] at this; omega : (wh.tmod 2 + 2) % 2 = 1)
  have e2 : wh.tmod 2 % 2 = 1 := by have := sl2_is wh; rw [hs] at this; omega
  obtain ⟨w0, hw0⟩ : ∃ x, x = w.alloc (.cells (ocells 8 wh b v pos keep data).toArray 53) := ⟨_, rfl⟩
  have ew := hw0.symm
  have b0 : Below w.heap.size w w0 := by rw [hw0]; exact below_alloc w _
  have O0 : OAt w0 w.heap.size 8 wh b v pos keep data := by rw [hw0]; exact LAt.new 53 w _
  have HQ0 : Hid (Sq w0 B P M k) := h.later b0
  have HB0 : Hid (Below w.heap.size w w0) := b0
  have HBB : Hid (B ≤ w0.heap.size) := Nat.le_trans hB b0.size
  have ckd := OAt.kind O0
  have cwh := OAt.which O0
  obtain ⟨⟨R', L, x, K, y, e, bo, hW, hl, -⟩, ht, hb1⟩ := HQ0.out
  have c0 : w0.cell? ⟨P, 1, none⟩ = some (.pointer (some ⟨L 1, 0, none⟩)) := hW.cl 1 hi
  have c1 : w0.cell? ⟨P, 3, none⟩ = some (.pointer (some ⟨x 1, 0, none⟩)) := hW.cd 1 hi
  have c2 : w0.cell? ⟨P, 5, none⟩ = some (.pointer (some ⟨K 1, 0, none⟩)) := hW.cr 1 hi
  have M1 : Hid (P < w0.heap.size) := hW.blk.lt
  have HW : Hid (Wd w0 R' B P M L x K y e e bo) := hW
  have HLS : Hid (LD w0 (fun k => R' k = 1 + 1) (L 1) (x 1) (e 1).d (e 1).ws (e 1).g) := hW.ls 1 hi
  have HRR : Hid (RL w0 (fun k => R' k = 3 + 1) (K 1) (y 1) (e 1).d (e 1).ws (e 1).g (bo 1)) := hW.rs 1 hi
  have HT0 : Hid (Tab w0) := ht
  have H1 : Hid (1 < B) := hb1
  have HL : Hid (∀ i, i < M → (e i).ws.length ≤ k) := hl
  have hle : (e 1).ws.length ≤ 100000 := by have := hl 1 hi; omega
  clear hw0 b0 O0 h hW hl ht hb1 hs HQ0
  go_enter Tryz.func9, Tryz.ntmps9
  go_wp2_with fail
  rw [E2.out]
  clear ew ckd cwh t2 e2 c1 E2
  refine (copy_any HLS.out.dsk hle).mono ?_
  rintro r1 w1 ⟨p', rfl, hd1, b1⟩
  have HD1 : Hid (Dsk w1 (fun k => w0.heap.size ≤ k) p' (e 1).g.sz (e 1).d (e 1).ws) := hd1
  have HB1 : Hid (Below w0.heap.size w0 w1) := b1
  have c2a := (b1.cell (p := ⟨P, 5, none⟩) M1.out).trans c2
  have cka := HAt.c0 (RL.later HRR.out b1).log
  clear hd1 b1
  go_wp2_with fail
  clear c2a cka
  refine (rcopy_any (RL.later HRR.out HB1.out).dsk hle).mono ?_
  rintro r2 w2 ⟨q', rfl, hd2, b2⟩
  have HD2 : Hid (Ref w2 (fun k => w1.heap.size ≤ k) q' (e 1).g.sz (e 1).d (e 1).ws) := hd2
  have HB2 : Hid (Below w1.heap.size w1 w2) := b2
  have HB02 : Hid (Below w0.heap.size w0 w2) := below_then HB1.out b2
  have c0b := (HB02.out.cell (p := ⟨P, 1, none⟩) M1.out).trans c0
  clear hd2 b2 c0
  go_wp2_with fail
  clear c0b
  refine (over_at (LAt.later HLS.out.log HB02.out) (some ⟨p', 0, none⟩)).mono ?_
  rintro r3 w3 ⟨K1, rfl, hk1, hG, b3⟩
  have HB3 : Hid (Below w2.heap.size w2 w3) := b3
  have HK1 : Hid (w2.heap.size ≤ K1) := hk1
  have HG3 : Hid (GAt w3 K1 (some ⟨p', 0, none⟩) (e 1).g) := hG
  have HB03 : Hid (Below w0.heap.size w0 w3) := below_then HB02.out b3
  have HRS : Hid (RL w3 (fun k => R' k = 3 + 1) (K 1) (y 1) (e 1).d (e 1).ws (e 1).g (bo 1)) := RL.later HRR.out HB03.out
  have HBk : Hid (Blk w3 P 46 6) := HW.out.blk.same (HB03.out.block P M1.out)
  have c2c := (HB03.out.cell (p := ⟨P, 5, none⟩) M1.out).trans c2
  clear hk1 hG b3 c2 HB02 HRR HLS
  go_wp2_with fail
  refine wp_region_noPanic ?_
  refine wp_region_held_drew (S := fun _ => True) (by kernel_rfl) trivial (fun hHeld => ?_)
  have HD3 : Hid (Below w3.heap.size w3 w3.drew) := below_drawn 1
  have HD4 : Hid (Below w3.heap.size w3 w3.drew) := below_drawn 1
  have c2d : w3.drew.cell? ⟨P, 5, none⟩ = some (.pointer (some ⟨K 1, 0, none⟩)) := c2c
  have HSz : Hid (w3.drew.heap.size ≤ w3.drew.heap.size) := Nat.le_refl _
  have wj : IntKind.i64.wrap 0 = 0 := by rw [IntKind.wrap_i64]; omega
  clear c2c
  generalize w3.drew = wd at *
  refine wpAnyH_take (i := 0) (v := ?va27) (by simp; rfl) (by kernel_rfl) (by kernel_rfl) (by kernel_rfl) (fun _ _ _ h => h) (Or.inl ⟨by rfl, ?ya27⟩) hHeld ?ra27
  case ya27 => intro w hSw; clear hSw; go_simp; with_reducible rfl
  simp only [Act.put, List.setIfInBounds_toArray, List.set_cons_zero, List.set_cons_succ]
  refine wpAnyH_take (i := 1) (v := ?va28) (by simp; rfl) (by kernel_rfl) (by kernel_rfl) (by kernel_rfl) (fun _ _ _ h => h) (Or.inl ⟨by rfl, ?ya28⟩) hHeld ?ra28
  case ya28 => intro w hSw; clear hSw; go_simp; with_reducible rfl
  simp only [Act.put, List.setIfInBounds_toArray, List.set_cons_zero, List.set_cons_succ]
  refine wpAnyH_take (i := 2) (v := ?va29) (by simp; rfl) (by kernel_rfl) (by kernel_rfl) (by kernel_rfl) (fun _ _ _ h => h) (Or.inl ⟨by rfl, ?ya29⟩) hHeld ?ra29
  case ya29 => intro w hSw; clear hSw; go_simp; with_reducible rfl
  simp only [Act.put, List.setIfInBounds_toArray, List.set_cons_zero, List.set_cons_succ]
  refine wpAnyH_take (i := 3) (v := ?va30) (by simp; rfl) (by kernel_rfl) (by kernel_rfl) (by kernel_rfl) (fun _ _ _ h => h) (Or.inl ⟨by rfl, ?ya30⟩) hHeld ?ra30
  case ya30 => intro w hSw; clear hSw; go_simp; with_reducible rfl
  simp only [Act.put, List.setIfInBounds_toArray, List.set_cons_zero, List.set_cons_succ]
  refine wpAnyH_take (i := 4) (v := ?va31) (by simp; rfl) (by kernel_rfl) (by kernel_rfl) (by kernel_rfl) (fun _ _ _ h => h) (Or.inl ⟨by rfl, ?ya31⟩) hHeld ?ra31
  case ya31 => intro w hSw; clear hSw; go_simp; with_reducible rfl
  simp only [Act.put, List.setIfInBounds_toArray, List.set_cons_zero, List.set_cons_succ]
  refine wpAnyH_take (i := 5) (v := ?va32) (by simp; rfl) (by kernel_rfl) (by kernel_rfl) (by kernel_rfl) (fun _ _ _ h => h) (Or.inl ⟨by rfl, ?ya32⟩) hHeld ?ra32
  case ya32 => intro w hSw; clear hSw; go_simp; with_reducible rfl
  simp only [Act.put, List.setIfInBounds_toArray, List.set_cons_zero, List.set_cons_succ]
  refine wpAnyH_take (i := 6) (v := ?va33) (by simp; rfl) (by kernel_rfl) (by kernel_rfl) (by kernel_rfl) (fun _ _ _ h => h) (Or.inl ⟨by rfl, ?ya33⟩) hHeld ?ra33
  case ya33 => intro w hSw; clear hSw; go_simp; with_reducible rfl
  simp only [Act.put, List.setIfInBounds_toArray, List.set_cons_zero, List.set_cons_succ]
  refine wpAnyH_take (i := 7) (v := ?va34) (by simp; rfl) (by kernel_rfl) (by kernel_rfl) (by kernel_rfl) (fun _ _ _ h => h) (Or.inl ⟨by rfl, ?ya34⟩) hHeld ?ra34
  case ya34 => intro w hSw; clear hSw; go_simp; with_reducible rfl
  simp only [Act.put, List.setIfInBounds_toArray, List.set_cons_zero, List.set_cons_succ]
  refine wpAnyH_take (i := 8) (v := ?va35) (by simp; rfl) (by kernel_rfl) (by kernel_rfl) (by kernel_rfl) (fun _ _ _ h => h) (Or.inl ⟨by rfl, ?ya35⟩) hHeld ?ra35
  case ya35 => intro w hSw; clear hSw; go_simp; with_reducible rfl
  simp only [Act.put, List.setIfInBounds_toArray, List.set_cons_zero, List.set_cons_succ]
  refine wpAnyH_take (i := 9) (v := ?va36) (by simp; rfl) (by kernel_rfl) (by kernel_rfl) (by kernel_rfl) (fun _ _ _ h => h) (Or.inl ⟨by rfl, ?ya36⟩) hHeld ?ra36
  case ya36 => intro w hSw; clear hSw; go_simp; with_reducible rfl
  simp only [Act.put, List.setIfInBounds_toArray, List.set_cons_zero, List.set_cons_succ]
  refine wpAnyH_take (i := 10) (v := ?va37) (by simp; rfl) (by kernel_rfl) (by kernel_rfl) (by kernel_rfl) (fun _ _ _ h => h) (Or.inl ⟨by rfl, ?ya37⟩) hHeld ?ra37
  case ya37 => intro w hSw; clear hSw; go_simp; with_reducible rfl
  simp only [Act.put, List.setIfInBounds_toArray, List.set_cons_zero, List.set_cons_succ]
  refine wpAnyH_take (i := 11) (v := ?va38) (by simp; rfl) (by kernel_rfl) (by kernel_rfl) (by kernel_rfl) (fun _ _ _ h => h) (Or.inl ⟨by rfl, ?ya38⟩) hHeld ?ra38
  case ya38 => intro w hSw; clear hSw; go_simp; with_reducible rfl
  simp only [Act.put, List.setIfInBounds_toArray, List.set_cons_zero, List.set_cons_succ]
  refine wpAnyH_take (i := 12) (v := ?va39) (by simp; rfl) (by kernel_rfl) (by kernel_rfl) (by kernel_rfl) (fun _ _ _ h => h) (Or.inl ⟨by rfl, ?ya39⟩) hHeld ?ra39
  case ya39 => intro w hSw; clear hSw; go_simp; with_reducible rfl
  simp only [Act.put, List.setIfInBounds_toArray, List.set_cons_zero, List.set_cons_succ]
  refine wpAnyH_take (i := 13) (v := ?va40) (by simp; rfl) (by kernel_rfl) (by kernel_rfl) (by kernel_rfl) (fun _ _ _ h => h) (Or.inl ⟨by rfl, ?ya40⟩) hHeld ?ra40
  case ya40 => intro w hSw; clear hSw; go_simp; with_reducible rfl
  simp only [Act.put, List.setIfInBounds_toArray, List.set_cons_zero, List.set_cons_succ]
  refine wpAnyH_take (i := 14) (v := ?va41) (by simp; rfl) (by kernel_rfl) (by kernel_rfl) (by kernel_rfl) (fun _ _ _ h => h) (Or.inl ⟨by rfl, ?ya41⟩) hHeld ?ra41
  case ya41 => intro w hSw; clear hSw; go_simp; with_reducible rfl
  simp only [Act.put, List.setIfInBounds_toArray, List.set_cons_zero, List.set_cons_succ]
  refine wpAnyH_take (i := 15) (v := ?va42) (by simp; rfl) (by kernel_rfl) (by kernel_rfl) (by kernel_rfl) (fun _ _ _ h => h) (Or.inl ⟨by rfl, ?ya42⟩) hHeld ?ra42
  case ya42 => intro w hSw; clear hSw; go_simp; with_reducible rfl
  simp only [Act.put, List.setIfInBounds_toArray, List.set_cons_zero, List.set_cons_succ]
  refine wpAnyH_take (i := 17) (v := ?va43) (by simp; rfl) (by kernel_rfl) (by kernel_rfl) (by kernel_rfl) (fun _ _ _ h => h) (Or.inl ⟨by rfl, ?ya43⟩) hHeld ?ra43
  case ya43 => intro w hSw; clear hSw; go_simp; with_reducible rfl
  simp only [Act.put, List.setIfInBounds_toArray, List.set_cons_zero, List.set_cons_succ]
  refine wpAnyH_take (i := 19) (v := ?va44) (by simp; rfl) (by kernel_rfl) (by kernel_rfl) (by kernel_rfl) (fun _ _ _ h => h) (Or.inl ⟨by rfl, ?ya44⟩) hHeld ?ra44
  case ya44 => intro w hSw; clear hSw; go_simp; with_reducible rfl
  simp only [Act.put, List.setIfInBounds_toArray, List.set_cons_zero, List.set_cons_succ]
  refine wpAnyH_take (i := 20) (v := ?va45) (by simp; rfl) (by kernel_rfl) (by kernel_rfl) (by kernel_rfl) (fun _ _ _ h => h) (Or.inl ⟨by rfl, ?ya45⟩) hHeld ?ra45
  case ya45 => intro w hSw; clear hSw; go_simp; with_reducible rfl
  simp only [Act.put, List.setIfInBounds_toArray, List.set_cons_zero, List.set_cons_succ]
  refine wpAnyH_take (i := 23) (v := ?va46) (by simp; rfl) (by kernel_rfl) (by kernel_rfl) (by kernel_rfl) (fun _ _ _ h => h) (Or.inl ⟨by rfl, ?ya46⟩) hHeld ?ra46
  case ya46 => intro w hSw; clear hSw; go_simp; with_reducible rfl
  simp only [Act.put, List.setIfInBounds_toArray, List.set_cons_zero, List.set_cons_succ]
  refine wpAnyH_take (i := 24) (v := ?va47) (by simp; rfl) (by kernel_rfl) (by kernel_rfl) (by kernel_rfl) (fun _ _ _ h => h) (Or.inl ⟨by rfl, ?ya47⟩) hHeld ?ra47
  case ya47 => intro w hSw; clear hSw; go_simp; with_reducible rfl
  simp only [Act.put, List.setIfInBounds_toArray, List.set_cons_zero, List.set_cons_succ]
  refine wpAnyH_take (i := 27) (v := ?va48) (by simp; rfl) (by kernel_rfl) (by kernel_rfl) (by kernel_rfl) (fun _ _ _ h => h) (Or.inl ⟨by rfl, ?ya48⟩) hHeld ?ra48
  case ya48 => intro w hSw; clear hSw; go_simp; with_reducible rfl
  simp only [Act.put, List.setIfInBounds_toArray, List.set_cons_zero, List.set_cons_succ]
  refine wpAnyH_take (i := 28) (v := ?va49) (by simp; rfl) (by kernel_rfl) (by kernel_rfl) (by kernel_rfl) (fun _ _ _ h => h) (Or.inl ⟨by rfl, ?ya49⟩) hHeld ?ra49
  case ya49 => intro w hSw; clear hSw; go_simp; with_reducible rfl
  simp only [Act.put, List.setIfInBounds_toArray, List.set_cons_zero, List.set_cons_succ]
  refine wpAnyH_ready (rs := [16]) (by kernel_rfl) (by simp) ?_
  refine AllReadyH.cons (by simp; rfl) (fun Kc hKc => ?_) AllReadyH.nil
  go_simp
  clear c2d
  refine hKc.out _ _ trivial (fun hHeld => ?_)
  clear hKc Kc
  refine wpAnyH_ready (rs := [18]) (by kernel_rfl) (by simp) ?_
  refine AllReadyH.cons (by simp; rfl) (fun Kc hKc => ?_) AllReadyH.nil
  go_simp
  refine (rover_at (LAt.later HRS.out.log HD4.out) (some ⟨q', 0, none⟩)).mono ?_
  rintro r4 w4 ⟨K2, rfl, hk2, hH, b4⟩
  have bP : Blk w4 P 46 6 := HBk.out.same ((below_then HD4.out b4).block P HBk.out.lt)
  obtain ⟨u0, hu0⟩ := bP.some 2 (by omega)
  have hf0 := bP.free 2
  have bP2 := bP.setCell (g' := P) (o := 2) (.pointer (some ⟨p', 0, none⟩))
  obtain ⟨u1, hu1⟩ := bP2.some 0 (by omega)
  have hf1 := bP2.free 0
  have bP3 := bP2.setCell (g' := P) (o := 0) (.pointer (some ⟨K1, 0, none⟩))
  obtain ⟨u2, hu2⟩ := bP3.some 4 (by omega)
  have hf2 := bP3.free 4
  have HF : Hid (Sq (((w4.setCell ⟨P, 2, none⟩ (.pointer (some ⟨p', 0, none⟩))).setCell ⟨P, 0, none⟩ (.pointer (some ⟨K1, 0, none⟩))).setCell ⟨P, 4, none⟩ (.pointer (some ⟨K2, 0, none⟩))) B P 2 (k + 1) ∧ Below B w0 (((w4.setCell ⟨P, 2, none⟩ (.pointer (some ⟨p', 0, none⟩))).setCell ⟨P, 0, none⟩ (.pointer (some ⟨K1, 0, none⟩))).setCell ⟨P, 4, none⟩ (.pointer (some ⟨K2, 0, none⟩)))) :=
    HW.out.over (i := 1) (j := 0) hi (by omega) (fun a h1 h2 => by omega) HB1.out HD1.out HB2.out HD2.out (below_then HB3.out HD3.out) HK1.out (LAt.later HG3.out HD3.out) b4 (Nat.le_trans HSz.out hk2) hH HBB.out HL.out HT0.out H1.out
  clear bP bP2 bP3 hH b4 hk2
  refine hKc.out _ _ trivial (fun hHeld => ?_)
  clear hKc Kc
  refine wpAnyH_take (i := 21) (v := ?va50) (by simp; rfl) (by kernel_rfl) (by kernel_rfl) (by kernel_rfl) (fun _ _ _ h => h) (Or.inl ⟨by rfl, ?ya50⟩) hHeld ?ra50
  case ya50 => intro w hSw; clear hSw; go_simp; with_reducible rfl
  simp only [Act.put, List.setIfInBounds_toArray, List.set_cons_zero, List.set_cons_succ]
  refine wpAnyH_ready (rs := [22]) (by kernel_rfl) (by simp) ?_
  refine AllReadyH.cons (by simp; rfl) (fun Kc hKc => ?_) AllReadyH.nil
  go_simp
  refine hKc.out _ _ trivial (fun hHeld => ?_)
  clear hKc Kc
  refine wpAnyH_take (i := 25) (v := ?va51) (by simp; rfl) (by kernel_rfl) (by kernel_rfl) (by kernel_rfl) (fun _ _ _ h => h) (Or.inl ⟨by rfl, ?ya51⟩) hHeld ?ra51
  case ya51 => intro w hSw; clear hSw; go_simp; with_reducible rfl
  simp only [Act.put, List.setIfInBounds_toArray, List.set_cons_zero, List.set_cons_succ]
  refine wpAnyH_ready (rs := [26]) (by kernel_rfl) (by simp) ?_
  refine AllReadyH.cons (by simp; rfl) (fun Kc hKc => ?_) AllReadyH.nil
  go_simp
  refine hKc.out _ _ trivial (fun hHeld => ?_)
  clear hKc Kc
  refine wpAnyH_take (i := 29) (v := ?va52) (by simp; rfl) (by kernel_rfl) (by kernel_rfl) (by kernel_rfl) (fun _ _ _ h => h) (Or.inl ⟨by rfl, ?ya52⟩) hHeld ?ra52
  case ya52 => intro w hSw; clear hSw; go_simp; with_reducible rfl
  simp only [Act.put, List.setIfInBounds_toArray, List.set_cons_zero, List.set_cons_succ]
  refine wpAnyH_ready (rs := [30]) (by kernel_rfl) (by simp) ?_
  refine AllReadyH.cons (by simp; rfl) (fun Kc hKc => ?_) AllReadyH.nil
  go_simp
  refine hKc.out _ _ trivial (fun hHeld => ?_)
  clear hKc Kc
  clear hHeld hu0 hu1 hu2 hf0 hf1 hf2
  refine wpAnyH_done (by kernel_rfl) (NoPanic.normal ?_) _
  have HF2 : Hid (_) := HF.out
  revert HF2
  generalize ((w4.setCell ⟨P, 2, none⟩ (.pointer (some ⟨p', 0, none⟩))).setCell ⟨P, 0, none⟩ (.pointer (some ⟨K1, 0, none⟩))).setCell ⟨P, 4, none⟩ (.pointer (some ⟨K2, 0, none⟩)) = w7
  intro HF2
  have HQz : Hid (Sq w7 B P 2 (k + 1)) := HF2.out.1
  have HBz : Hid (Below B w w7) := below_of HB0.out hB HF2.out.2
  clear HF HF2
  go_wp2_with fail
  refine (HQz.out.tells (i := 1) (by omega) (by omega)).mono ?_
  rintro r9 w9 ⟨rfl, b9⟩
  have HQ9 : Hid (Sq w9 B P 2 (k + 1)) := HQz.out.later b9
  have HB9 : Hid (Below B w w9) := HBz.out.trans (b9.mono HQz.out.B)
  clear b9 HQz HBz
  go_wp2_with fail
  go_ret
  exact ⟨rfl, HQ9.out, HB9.out⟩
end Go.Proofs.YtmcpjokbkkfgfaaGreatDoor
