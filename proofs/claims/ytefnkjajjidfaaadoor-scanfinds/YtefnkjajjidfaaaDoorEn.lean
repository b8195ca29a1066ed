/-
  The laws' own: plain, walked.
-/
import Derived.Test.YtefnkjajjidfaaaDoorEm
namespace Go.Proofs.YtefnkjajjidfaaaDoor
open Go.RowKit

set_option maxHeartbeats 4000000 in
set_option maxRecDepth 100000 in
theorem plain_any (t l f : Int) (p : Option Addr) (n c : Nat) (txs : List TX) (w : World) (h : XIn w p n txs) (hwf : TxsWf txs) (hn : n ≤ 100000) (hm : ∀ x ∈ txs, x.ims.length ≤ 100000) :
    Calls Tryd.prog 22 #[.agg (gcells t l f (.slice p n c)).toArray] w fun e w' => ∃ q d vs, e = .returned (.agg (gcells t l f (.slice q n d)).toArray) ∧ XOwn 28 w' w.heap.size (.slice q n d) txs vs ∧ Below w.heap.size w w' := by
  obtain ⟨wa, hwa⟩ : ∃ y, y = w.alloc (.cells (gcells t l f (.slice p n c)).toArray 66) := ⟨_, rfl⟩
  obtain ⟨wb, hwb⟩ : ∃ y, y = wa.alloc (.cells (gcells 0 0 0 (.slice none 0 0)).toArray 48) := ⟨_, rfl⟩
  obtain ⟨wc, hwc⟩ : ∃ y, y = wb.alloc (.cells (gcells t l f (.slice none 0 0)).toArray 48) := ⟨_, rfl⟩
  have ewa := hwa.symm
  have sa : wa.heap.size = w.heap.size + 1 := by rw [hwa]; simp
  have sb : wb.heap.size = w.heap.size + 1 + 1 := by rw [hwb, ← sa]; simp
  have A1 : Hid (_) := allocR wa
  rw [← hwb, sa] at A1
  have U1 : Hid (_) := buildR3 wb t l f
  have A2 : Hid (_) := allocR wb
  have T2 : Hid (_) := store_newR wb t l f (v := .slice none 0 0) rfl
  rw [← hwc, sb] at T2
  rw [sb] at A2
  have bwa : Below w.heap.size w wa := by rw [hwa]; exact below_alloc w _
  have bab : Below wa.heap.size wa wb := by rw [hwb]; exact below_alloc wa _
  have bbc : Below wb.heap.size wb wc := by rw [hwc]; exact below_alloc wb _
  have LA : LAt 66 wb w.heap.size (gcells t l f (.slice p n c)) := by
    refine LAt.later ?_ bab
    rw [hwa]; exact LAt.new 66 w _
  have LAc := LAt.later LA bbc
  have LZ : Hid (LAt 48 wc (w.heap.size + 1) (gcells 0 0 0 (.slice none 0 0))) := by
    refine LAt.later ?_ bbc
    rw [hwb, ← sa]; exact LAt.new 48 wa _
  have LO : Hid (LAt 48 wc (w.heap.size + 1 + 1) (gcells t l f (.slice none 0 0))) := by rw [hwc, ← sb]; exact LAt.new 48 wb _
  have B0 : Hid (Below w.heap.size w wc) := below_then (below_then bwa bab) bbc
  have a0 : wb.cell? ⟨w.heap.size, 0, none⟩ = some (.int .u64 t) := LAt.cell LA 0
  have a1 : wb.cell? ⟨w.heap.size, 1, none⟩ = some (.int .u64 l) := LAt.cell LA 1
  have a2 : wb.cell? ⟨w.heap.size, 2, none⟩ = some (.int .u64 f) := LAt.cell LA 2
  have a3 : wc.cell? ⟨w.heap.size, 3, none⟩ = some (.slice p n c) := LAt.cell LAc 3
  have HX : Hid (XIn w p n txs) := h
  have HW : Hid (TxsWf txs) := hwf
  have HM : Hid (∀ x ∈ txs, x.ims.length ≤ 100000) := hm
  have hlen := h.len
  clear hwa hwb hwc bwa bab bbc LA LAc h hwf hm
  go_enter Tryd.func22, Tryd.ntmps22
  go_wp2_with ((with_reducible refine at_ops ?_); (first | (refine wpList_alloc_is (by rfl) 48 rfl A1.out ?_) | (refine wpList_build_is (vs := [(0, .int .u64 t), (1, .int .u64 l), (2, .int .u64 f)]) (by rfl) 48 rfl (by rfl) U1.out ?_) | (refine wpList_alloc_is (by rfl) 48 rfl A2.out ?_) | (refine wpList_store_is (by rfl) 48 rfl rfl rfl T2.out ?_)); simp only [Act.put, List.setIfInBounds_toArray, List.set_cons_zero, List.set_cons_succ])
  clear A1 U1 A2 T2 a0 a1 a2 a3 ewa
  go_loopw [16] (fun i wr => ∃ k : Nat, k ≤ n ∧ i = .int .i64 k ∧ Hid (∃ v vs, LAt 48 wr (w.heap.size + 1 + 1) (gcells t l f v) ∧ LAt 48 wr (w.heap.size + 1) (gcells 0 0 0 (.slice none 0 0)) ∧ XOwn 28 wr w.heap.size v (txs.take k) vs ∧ Below w.heap.size w wr)) (fun i _ => n - (intOf i).toNat)
  case atStart => exact ⟨0, Nat.zero_le _, rfl, _, [], LO.out, LZ.out, XOwn.nil _ _ _, B0.out⟩
  case round =>
    obtain ⟨k, hk, rfl, HI⟩ := hrel
    clear LO LZ B0
    obtain ⟨v, vs, i1, i2, i3, i4⟩ := HI.out
    clear HI
    by_cases hlt : k < n
    · obtain ⟨x, hxk⟩ : ∃ x, txs[k]? = some x := ⟨_, List.getElem?_eq_getElem (by omega)⟩
      obtain ⟨b, o, rfl, hcell⟩ := (HX.out.later i4).cells (by omega)
      obtain ⟨q2, c2, e0, e1, mi, -, -⟩ := hcell k x hxk
      have hxm := HM.out x (List.mem_of_getElem? hxk)
      have hxw := HW.out x (List.mem_of_getElem? hxk)
      have L17 : Hid (_) := load_tx e0 e1
      have A5 : Hid (_) := allocT wr
      have T5 : Hid (_) := store_newT wr x.p q2 x.ims.length c2
      obtain ⟨w5, hw5⟩ : ∃ y, y = wr.alloc (.cells #[.int .u64 x.p, .slice q2 x.ims.length c2] 33) := ⟨_, rfl⟩
      have l5 : LAt 33 w5 wr.heap.size [.int .u64 x.p, .slice q2 x.ims.length c2] := by rw [hw5]; exact LAt.new 33 wr _
      rw [← hw5] at T5
      have b5 : Below wr.heap.size wr w5 := by rw [hw5]; exact below_alloc wr _
      obtain ⟨B5, hB5⟩ : ∃ B5, B5 = wr.heap.size := ⟨_, rfl⟩
      rw [← hB5] at l5 T5 A5
      have hB5n : w.heap.size + 1 + 1 < B5 := by rw [hB5]; exact i1.lt
      have M5 : Hid (MIn w5 q2 x.ims.length x.ims ∧ LAt 33 w5 B5 [.int .u64 x.p, .slice q2 x.ims.length c2] ∧ LAt 48 w5 (w.heap.size + 1 + 1) (gcells t l f v) ∧ LAt 48 w5 (w.heap.size + 1) (gcells 0 0 0 (.slice none 0 0)) ∧ XOwn 28 w5 w.heap.size v (txs.take k) vs ∧ Below w.heap.size w w5) := ⟨mi.later b5, l5, LAt.later i1 b5, LAt.later i2 b5, i3.later b5, below_then i4 b5⟩
      have HT : Hid (txs.take (k + 1) = txs.take k ++ [x]) := by show _ = _; rw [List.take_add_one, hxk]; rfl
      have hlk : (txs.take k).length = k := by rw [List.length_take]; omega
      clear hcell e0 e1 mi hw5 l5 b5 i1 i2 i3 i4 hB5
      go_wp2_with ((with_reducible refine at_ops ?_); (first | (refine wpList_load_is (by rfl) 33 rfl rfl L17.out ?_) | (refine wpList_alloc_is (by rfl) 33 rfl A5.out ?_) | (refine wpList_store_is (by rfl) 33 rfl rfl rfl T5.out ?_)); simp only [Act.put, List.setIfInBounds_toArray, List.set_cons_zero, List.set_cons_succ])
      clear L17 A5 T5
      have DD : Below w5.heap.size w5 w5.drew := below_drawn 1
      refine wp_region_noPanic ?_
      refine wp_region_last 12 (fun W => W.cell? ⟨w.heap.size + 1 + 1, 3, none⟩ = some v ∧ W.cell? ⟨B5, 0, none⟩ = some (.int .u64 x.p) ∧ W.cell? ⟨B5, 1, none⟩ = some (.slice q2 x.ims.length c2)) (by kernel_rfl) ?_
      have MD : Hid (_) := (⟨M5.out.1.later DD, LAt.later M5.out.2.1 DD, LAt.later M5.out.2.2.1 DD, LAt.later M5.out.2.2.2.1 DD, M5.out.2.2.2.2.1.later DD, below_then M5.out.2.2.2.2.2 DD⟩ : MIn w5.drew q2 x.ims.length x.ims ∧ LAt 33 w5.drew B5 [.int .u64 x.p, .slice q2 x.ims.length c2] ∧ LAt 48 w5.drew (w.heap.size + 1 + 1) (gcells t l f v) ∧ LAt 48 w5.drew (w.heap.size + 1) (gcells 0 0 0 (.slice none 0 0)) ∧ XOwn 28 w5.drew w.heap.size v (txs.take k) vs ∧ Below w.heap.size w w5.drew)
      clear M5 DD
      generalize w5.drew = wd at *
      have HS : Hid (∀ W, Below wd.heap.size wd W → W.cell? ⟨w.heap.size + 1 + 1, 3, none⟩ = some v ∧ W.cell? ⟨B5, 0, none⟩ = some (.int .u64 x.p) ∧ W.cell? ⟨B5, 1, none⟩ = some (.slice q2 x.ims.length c2)) := fun W hW =>
        ⟨LAt.cell (LAt.later MD.out.2.2.1 hW) 3, LAt.cell (LAt.later MD.out.2.1 hW) 0, LAt.cell (LAt.later MD.out.2.1 hW) 1⟩
      have hHeld := HS.out wd (Below.refl _ _)
      obtain ⟨q3, c3, x2, hrun1, own2, bx2⟩ := app_copy (c := c2) MD.out.1 (by omega)
      have AP1 : Hid (_) := hrun1
      have BX2 : Hid (Below wd.heap.size wd x2) := bx2
      have hds := MD.out.2.2.2.2.2.size
      obtain ⟨q4, c4, V4, hrun2, lg4, oth4, xo4, bl4, -⟩ := XOwn.app (MD.out.2.2.2.2.1.later bx2) (LAt.later MD.out.2.2.1 bx2) (by have := bx2.size; omega) (by omega) hxw.p hxw.ims (own_at own2 (fun g hg => Nat.le_trans hds (own2.lt g hg).1) rfl)
      rw [hlk] at hrun2 xo4
      have AP2 : Hid (_) := hrun2
      have HS4 : Hid (V4.cell? ⟨w.heap.size + 1 + 1, 3, none⟩ = some v ∧ V4.cell? ⟨B5, 0, none⟩ = some (.int .u64 x.p) ∧ V4.cell? ⟨B5, 1, none⟩ = some (.slice q2 x.ims.length c2)) :=
        ⟨LAt.cell lg4 3, LAt.cell (oth4 (by decide) (LAt.later MD.out.2.1 bx2)) 0, LAt.cell (oth4 (by decide) (LAt.later MD.out.2.1 bx2)) 1⟩
      have zc4 : Hid (V4.cell? ⟨w.heap.size + 1 + 1, 3, none⟩ = some v ∧ V4.frozen? ⟨w.heap.size + 1 + 1, 3, none⟩ = false) := ⟨LAt.cell lg4 3, LAt.free lg4 3⟩
      have F5 : Hid (∃ v vs, LAt 48 (V4.setCell ⟨w.heap.size + 1 + 1, 3, none⟩ (.slice q4 (k + 1) c4)) (w.heap.size + 1 + 1) (gcells t l f v) ∧ LAt 48 (V4.setCell ⟨w.heap.size + 1 + 1, 3, none⟩ (.slice q4 (k + 1) c4)) (w.heap.size + 1) (gcells 0 0 0 (.slice none 0 0)) ∧ XOwn 28 (V4.setCell ⟨w.heap.size + 1 + 1, 3, none⟩ (.slice q4 (k + 1) c4)) w.heap.size v (txs.take (k + 1)) vs ∧ Below w.heap.size w (V4.setCell ⟨w.heap.size + 1 + 1, 3, none⟩ (.slice q4 (k + 1) c4))) := by
        refine ⟨.slice q4 (k + 1) c4, vs ++ [.slice q3 x.ims.length c3], LAt.set lg4 3 _, LAt.setO (oth4 (by decide) (LAt.later MD.out.2.2.2.1 bx2)) 3 _ (by omega), ?_, ?_⟩
        · rw [HT.out]; exact xo4
        · exact ((below_then MD.out.2.2.2.2.2 bx2).trans bl4).setCell (p := ⟨w.heap.size + 1 + 1, 3, none⟩) (by show w.heap.size ≤ w.heap.size + 1 + 1; omega) _
      have hv1 : ∃ qv cv, v = .slice qv k cv := by obtain ⟨qv, cv, e, -⟩ := XOwn.in MD.out.2.2.2.2.1; rw [hlk] at e; exact ⟨qv, cv, e⟩
      obtain ⟨qv, cv, rfl⟩ := hv1
      clear hrun1 own2 bx2 hrun2 lg4 oth4 xo4 bl4 MD
      refine wpAnyL_take (i := 0) (v := ?v0) (by simp; rfl) (by kernel_rfl) (by kernel_rfl) (by kernel_rfl) (by kernel_rfl) (fun _ _ _ h => h) (Or.inl ⟨by rfl, ?y0⟩) hHeld ?r0
      case y0 => intro w hSw; clear hSw; go_simp; with_reducible rfl
      simp only [Act.put, List.setIfInBounds_toArray, List.set_cons_zero, List.set_cons_succ]
      refine wpAnyL_take (i := 1) (v := ?v1) (by simp; rfl) (by kernel_rfl) (by kernel_rfl) (by kernel_rfl) (by kernel_rfl) (fun _ _ _ h => h) (Or.inl ⟨by rfl, ?y1⟩) hHeld ?r1
      case y1 => intro w hSw; obtain ⟨z1, z2, z3⟩ := hSw; go_simp; with_reducible rfl
      simp only [Act.put, List.setIfInBounds_toArray, List.set_cons_zero, List.set_cons_succ]
      refine wpAnyL_take (i := 2) (v := ?v2) (by simp; rfl) (by kernel_rfl) (by kernel_rfl) (by kernel_rfl) (by kernel_rfl) (fun _ _ _ h => h) (Or.inl ⟨by rfl, ?y2⟩) hHeld ?r2
      case y2 => intro w hSw; clear hSw; go_simp; with_reducible rfl
      simp only [Act.put, List.setIfInBounds_toArray, List.set_cons_zero, List.set_cons_succ]
      refine wpAnyL_take (i := 3) (v := ?v3) (by simp; rfl) (by kernel_rfl) (by kernel_rfl) (by kernel_rfl) (by kernel_rfl) (fun _ _ _ h => h) (Or.inl ⟨by rfl, ?y3⟩) hHeld ?r3
      case y3 => intro w hSw; obtain ⟨z1, z2, z3⟩ := hSw; go_simp; with_reducible rfl
      simp only [Act.put, List.setIfInBounds_toArray, List.set_cons_zero, List.set_cons_succ]
      refine wpAnyL_take (i := 5) (v := ?v5) (by simp; rfl) (by kernel_rfl) (by kernel_rfl) (by kernel_rfl) (by kernel_rfl) (fun _ _ _ h => h) (Or.inl ⟨by rfl, ?y5⟩) hHeld ?r5
      case y5 => intro w hSw; clear hSw; go_simp; with_reducible rfl
      simp only [Act.put, List.setIfInBounds_toArray, List.set_cons_zero, List.set_cons_succ]
      refine wpAnyL_take (i := 6) (v := ?v6) (by simp; rfl) (by kernel_rfl) (by kernel_rfl) (by kernel_rfl) (by kernel_rfl) (fun _ _ _ h => h) (Or.inl ⟨by rfl, ?y6⟩) hHeld ?r6
      case y6 => intro w hSw; obtain ⟨z1, z2, z3⟩ := hSw; go_simp; with_reducible rfl
      simp only [Act.put, List.setIfInBounds_toArray, List.set_cons_zero, List.set_cons_succ]
      refine wpAnyL_ready (rs := [4]) (by kernel_rfl) (by simp) ?_
      refine AllReadyL.cons (by simp; rfl) (fun Kc hKc => ?_) AllReadyL.nil
      refine sq_slice0 (by rfl) 26 rfl (build_im0 wd) ?_
      refine hKc.out _ _ (fun _ => HS.out _ (below_alloc wd _)) ?_
      clear hKc Kc
      simp only [Act.put, List.setIfInBounds_toArray, List.set_cons_zero, List.set_cons_succ]
      refine wpAnyL_ready (rs := [7]) (by kernel_rfl) (by simp) ?_
      refine AllReadyL.cons (by simp; rfl) (fun Kc hKc => ?_) AllReadyL.nil
      refine sq_append (u1 := .slice (some ⟨wd.heap.size, 0, none⟩) 0 0) (u2 := .slice q2 x.ims.length c2) (by rfl) rfl rfl rfl rfl AP1.out ?_
      refine hKc.out _ _ (fun _ => HS.out _ BX2.out) ?_
      clear hKc Kc
      simp only [Act.put, List.setIfInBounds_toArray, List.set_cons_zero, List.set_cons_succ]
      refine wpAnyL_ready (rs := [8]) (by kernel_rfl) (by simp) ?_
      refine AllReadyL.cons (by simp; rfl) (fun Kc hKc => ?_) AllReadyL.nil
      refine sq_build (vs := [(0, .int .u64 x.p), (1, .slice q3 x.ims.length c3)]) (by rfl) 28 rfl (by rfl) (buildX x2 x.p q3 x.ims.length c3) ?_
      refine hKc.out _ _ (fun _ => HS.out _ BX2.out) ?_
      clear hKc Kc
      simp only [Act.put, List.setIfInBounds_toArray, List.set_cons_zero, List.set_cons_succ]
      refine wpAnyL_ready (rs := [9]) (by kernel_rfl) (by simp) ?_
      refine AllReadyL.cons (by simp; rfl) (fun Kc hKc => ?_) AllReadyL.nil
      refine sq_slice (u := .agg #[.int .u64 x.p, .slice q3 x.ims.length c3]) (by rfl) 22 rfl rfl (build_rtx x2 x.p q3 x.ims.length c3) ?_
      refine hKc.out _ _ (fun _ => HS.out _ (below_then BX2.out (below_alloc x2 _))) ?_
      clear hKc Kc
      simp only [Act.put, List.setIfInBounds_toArray, List.set_cons_zero, List.set_cons_succ]
      refine wpAnyL_ready (rs := [10]) (by kernel_rfl) (by simp) ?_
      refine AllReadyL.cons (by simp; rfl) (fun Kc hKc => ?_) AllReadyL.nil
      refine sq_append (u1 := .slice qv k cv) (u2 := .slice (some ⟨x2.heap.size, 0, none⟩) 1 1) (by rfl) rfl rfl rfl rfl AP2.out ?_
      refine hKc.out _ _ (fun _ => HS4.out) ?_
      clear hKc Kc
      simp only [Act.put, List.setIfInBounds_toArray, List.set_cons_zero, List.set_cons_succ]
      refine wpAnyL_ready (rs := [11]) (by kernel_rfl) (by simp) ?_
      refine AllReadyL.cons (by simp; rfl) (fun Kc hKc => ?_) AllReadyL.nil
      go_simp
      refine hKc.out _ _ (fun _ => HS4.out) ?_
      clear hKc Kc
      refine wpAnyL_ready (rs := [12]) (by kernel_rfl) (by simp) ?_
      refine AllReadyL.cons (by simp; rfl) (fun Kc hKc => ?_) AllReadyL.nil
      have zc := zc4.out.1
      have zf := zc4.out.2
      go_simp
      refine hKc.out _ _ (fun h => absurd rfl h) ?_
      clear hKc Kc zc zf
      refine wpAnyL_done (by kernel_rfl) (NoPanic.normal ?_) _
      clear hHeld HS HS4 AP1 AP2 BX2 zc4
      go_wp2_with fail
      go_roundw
      case rel => exact ⟨k + 1, by omega, by go_num, F5.out⟩
      case measure => simp [intOf]; omega
    · obtain rfl : n = k := by omega
      rw [← hlen, List.take_length] at i3
      obtain ⟨qv, cv, rfl, -⟩ := XOwn.in i3
      have LL : Hid (_) := LAt.loadR i1
      have TL : Hid (_) := LAt.store (ds := gcells t l f (.slice qv txs.length cv)) i2 sizeR rfl (all_oneCell_toArray (gcells_ones rfl t l f))
      have F6 : Hid (LAt 48 (wr.setRow (w.heap.size + 1) (gcells t l f (.slice qv txs.length cv)).toArray) (w.heap.size + 1) (gcells t l f (.slice qv txs.length cv))) := LAt.stored i2 _
      have G6 : Hid (XOwn 28 (wr.setRow (w.heap.size + 1) (gcells t l f (.slice qv txs.length cv)).toArray) w.heap.size (.slice qv txs.length cv) txs vs ∧ Below w.heap.size w (wr.setRow (w.heap.size + 1) (gcells t l f (.slice qv txs.length cv)).toArray)) := by
        refine ⟨i3.kept (grownBy_setRow wr _ _) (.inr (lat_not_row i2 (by decide) i3.row)) fun u hu => ?_, below_setRow i4 (Nat.le_succ _) _⟩
        obtain ⟨j, hj, rfl⟩ := List.getElem_of_mem hu
        have hj' : j < txs.length := by rw [← i3.len]; exact hj
        exact .inr (lat_not_row i2 (by decide) (i3.each j txs[j] vs[j] (List.getElem?_eq_getElem hj') (List.getElem?_eq_getElem hj)))
      clear i1 i2 i3 i4
      go_wp2_with ((with_reducible refine at_ops ?_); (first | (refine wpList_load_is (by rfl) 48 rfl rfl LL.out ?_) | (refine wpList_store_is (by rfl) 48 rfl rfl rfl TL.out ?_)); simp only [Act.put, List.setIfInBounds_toArray, List.set_cons_zero, List.set_cons_succ])
      refine bodyPost_ret (results_lat1 Tryd.results22 _ _ (w.heap.size + 1) 48 _ _ (by rfl) F6.out Tryd.underlying48 rfl sizeR) rfl ?_
      rw [hlen] at G6 ⊢
      exact ⟨qv, cv, vs, rfl, G6.out.1, G6.out.2⟩
end Go.Proofs.YtefnkjajjidfaaaDoor
