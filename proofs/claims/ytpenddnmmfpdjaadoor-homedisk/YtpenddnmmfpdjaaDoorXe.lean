/-
  plays: Load.
-/
import Derived.Test.YtpenddnmmfpdjaaDoorXc
namespace Go.Proofs.YtpenddnmmfpdjaaDoor
open Go.RowKit

set_option maxRecDepth 100000 in
set_option maxHeartbeats 8000000 in
theorem plays_load {w : World} {B g p r n K : Nat} {s : Sup} (h : St w B g p r n s K) (hK : K ≤ 100) (b : Int) (v : List Int) (hv : v.length = 32) (hvb : Bytes v) (raw keep : Value) (o : Sup) (odd : Bool) :
    Calls Tryd.prog 30 #[.pointer (some ⟨g, 0, none⟩), .agg (ocells 2 b v raw keep o odd).toArray] w fun e0 w' => e0 = .returned (.bool true) ∧ St w' B g p r n s (K + 1) ∧ Below B w w' := by
  obtain ⟨R, d, ws, m, hD, hl, hm, hB⟩ := h
  have HV : Hid (v.length = 32 ∧ Bytes v) := ⟨hv, hvb⟩
  obtain ⟨w0, hw0⟩ : ∃ x, x = w.alloc (.cells (ocells 2 b v raw keep o odd).toArray 73) := ⟨_, rfl⟩
  have ew := hw0.symm
  have sz0 : w0.heap.size = w.heap.size + 1 := by rw [hw0]; simp
  have b0 : Below w.heap.size w w0 := by rw [hw0]; exact below_alloc w _
  have O0 : OAt w0 w.heap.size 2 b v raw keep o odd := by rw [hw0]; exact LAt.new 73 w _
  obtain ⟨vt, vw, tl, wl, hk0, -⟩ := (hD.later b0).desk
  have L0 : Hid (_) := KAt.load39 hk0
  have A0 : Hid (_) := alloc23 w0
  have S0 : Hid (_) := store_newC w0 s
  obtain ⟨w1, hw1⟩ : ∃ x, x = w0.alloc (.cells (ccells s).toArray 39) := ⟨_, rfl⟩
  have b1 : Below w.heap.size w w1 := by rw [hw1]; exact below_then b0 (below_alloc _ _)
  have C1 : CAt w1 (w.heap.size + 1) s := by rw [hw1, ← sz0]; exact LAt.new 39 w0 _
  have O1 : OAt w1 w.heap.size 2 b v raw keep o odd := by rw [hw1]; exact LAt.later O0 (below_alloc _ _)
  have K1 : KAt w1 g p r s vt vw := by rw [hw1]; exact LAt.later hk0 (below_alloc _ _)
  have c41 := OAt.odd O1 hv
  rw [← hw1] at S0
  rw [sz0] at A0 S0
  have HF : Hid (Off R g w.heap.size (w.heap.size + 1)) := ⟨hD.rg, hD.hi _ (Nat.le_refl _), hD.hi _ (Nat.le_succ _)⟩
  have HBB : Hid (B ≤ w.heap.size) := hB
  clear hw0 hw1 O0 hk0
  cases odd
  · have HD : Hid (Dk w1 R B g p r n s d ws d ws m) := hD.later b1
    have HS : Hid (See w1 g p r s vt vw w.heap.size (ocells 2 b v raw keep o false) (w.heap.size + 1) s) := ⟨K1, O1, C1⟩
    have HB : Hid (Below w.heap.size w w1) := b1
    have kd := OAt.kind O1
    clear hD b0 b1 O1 C1 K1 hv hvb hB
    go_enter Tryd.func30, Tryd.ntmps30
    go_wp2_with ((with_reducible refine at_ops ?_); (first | (refine wpList_load_is (by rfl) 39 rfl rfl L0.out ?_) | (refine wpList_alloc_is (by rfl) 39 rfl A0.out ?_) | (refine wpList_store_is (by rfl) 39 rfl rfl rfl S0.out ?_)); simp only [Act.put, List.setIfInBounds_toArray, List.set_cons_zero, List.set_cons_succ])
    clear c41 kd L0 A0 S0 ew sz0
    obtain ⟨X, hX⟩ : ∃ X, X = ldS s n ws d b := ⟨_, rfl⟩
    have HX : Hid (X = ldS s n ws d b) := hX
    have HXL : Hid (X.1.length = 32) := by rw [hX]; exact ldS_len _ _ _ _ _
    clear hX
    refine wp_region_noPanic ?_
    refine wp_region_held_drew (S := (fun w' => See w' g p r s vt vw w.heap.size (ocells 2 b v raw keep o false) (w.heap.size + 1) s)) (by kernel_rfl) (HS.out.later (below_drawn 1)) (fun hHeld => ?_)
    have HBu : Hid (Below w1.heap.size w1 w1.drew) := below_drawn 1
    generalize w1.drew = u at *
    refine wpAnyH_take (i := 0) (v := ?va1) (by simp; rfl) (by kernel_rfl) (by kernel_rfl) (by kernel_rfl) (fun _ _ _ h => h) (Or.inl ⟨by rfl, ?ya1⟩) hHeld ?ra1
    case ya1 => intro w hSw; clear hSw; go_simp; with_reducible rfl
    simp only [Act.put, List.setIfInBounds_toArray, List.set_cons_zero, List.set_cons_succ]
    refine wpAnyH_take (i := 1) (v := ?va2) (by simp; rfl) (by kernel_rfl) (by kernel_rfl) (by kernel_rfl) (fun _ _ _ h => h) (Or.inl ⟨by rfl, ?ya2⟩) hHeld ?ra2
    case ya2 => intro w hSw; clear hSw; go_simp; with_reducible rfl
    simp only [Act.put, List.setIfInBounds_toArray, List.set_cons_zero, List.set_cons_succ]
    refine wpAnyH_take (i := 2) (v := ?va3) (by simp; rfl) (by kernel_rfl) (by kernel_rfl) (by kernel_rfl) (fun _ _ _ h => h) (Or.inl ⟨by rfl, ?ya3⟩) hHeld ?ra3
    case ya3 => intro w hSw; clear hSw; go_simp; with_reducible rfl
    simp only [Act.put, List.setIfInBounds_toArray, List.set_cons_zero, List.set_cons_succ]
    refine wpAnyH_take (i := 3) (v := ?va4) (by simp; rfl) (by kernel_rfl) (by kernel_rfl) (by kernel_rfl) (fun _ _ _ h => h) (Or.inl ⟨by rfl, ?ya4⟩) hHeld ?ra4
    case ya4 => intro w hSw; have z := KAt.c0 hSw.desk; clear hSw; go_simp; with_reducible rfl
    simp only [Act.put, List.setIfInBounds_toArray, List.set_cons_zero, List.set_cons_succ]
    refine wpAnyH_take (i := 4) (v := _) (by simp; rfl) (by kernel_rfl) (by kernel_rfl) (by kernel_rfl) (fun _ _ _ h => h) (yieldsIf_load_mid (by rfl) 39 (.tmp 5) rfl (w.heap.size + 1) 0 rfl (ccells s) _ (fun _ h => LAt.range h.cfg) Tryd.underlying39 rfl (by rw [size23, ccells_len])) hHeld ?_
    simp only [Act.put, List.setIfInBounds_toArray, List.set_cons_zero, List.set_cons_succ]
    refine wpAnyH_take (i := 5) (v := ?va5) (by simp; rfl) (by kernel_rfl) (by kernel_rfl) (by kernel_rfl) (fun _ _ _ h => h) (Or.inl ⟨by rfl, ?ya5⟩) hHeld ?ra5
    case ya5 => intro w hSw; clear hSw; go_simp; with_reducible rfl
    simp only [Act.put, List.setIfInBounds_toArray, List.set_cons_zero, List.set_cons_succ]
    refine wpAnyH_take (i := 6) (v := ?va6) (by simp; rfl) (by kernel_rfl) (by kernel_rfl) (by kernel_rfl) (fun _ _ _ h => h) (Or.inl ⟨by rfl, ?ya6⟩) hHeld ?ra6
    case ya6 => intro w hSw; have z := OAt.block hSw.op; clear hSw; go_simp; with_reducible rfl
    simp only [Act.put, List.setIfInBounds_toArray, List.set_cons_zero, List.set_cons_succ]
    refine wpAnyH_ready (rs := [7, 11]) (by kernel_rfl) (by simp) ?_
    refine AllReadyH.cons (by simp; rfl) (fun Kc hKc => ?_) (AllReadyH.cons (by simp; rfl) (fun Kc hKc => ?_) AllReadyH.nil)
    · go_simp
      refine (hload_any s b (HD.out.later HBu.out).dsk (HD.out.later HBu.out).tab).mono ?_
      rintro e v1 ⟨rfl, bn⟩
      rw [← HX.out]
      have HBv1 : Hid (Below w1.heap.size w1 v1) := below_then HBu.out bn
      clear bn HBu hHeld
      refine hKc.out _ _ (HS.out.later HBv1.out) (fun hHeld => ?_)
      clear hKc Kc
      refine wpAnyH_take (i := 8) (v := ?va7) (by simp; rfl) (by kernel_rfl) (by kernel_rfl) (by kernel_rfl) (fun _ _ _ h => h) (Or.inl ⟨by rfl, ?ya7⟩) hHeld ?ra7
      case ya7 => intro w hSw; clear hSw; go_simp; with_reducible rfl
      simp only [Act.put, List.setIfInBounds_toArray, List.set_cons_zero, List.set_cons_succ]
      refine wpAnyH_take (i := 9) (v := ?va8) (by simp; rfl) (by kernel_rfl) (by kernel_rfl) (by kernel_rfl) (fun _ _ _ h => h) (Or.inl ⟨by rfl, ?ya8⟩) hHeld ?ra8
      case ya8 => intro w hSw; clear hSw; go_simp; with_reducible rfl
      simp only [Act.put, List.setIfInBounds_toArray, List.set_cons_zero, List.set_cons_succ]
      refine wpAnyH_take (i := 10) (v := ?va9) (by simp; rfl) (by kernel_rfl) (by kernel_rfl) (by kernel_rfl) (fun _ _ _ h => h) (Or.inl ⟨by rfl, ?ya9⟩) hHeld ?ra9
      case ya9 => intro w hSw; clear hSw; go_simp; with_reducible rfl
      simp only [Act.put, List.setIfInBounds_toArray, List.set_cons_zero, List.set_cons_succ]
      refine wpAnyH_ready (rs := [11]) (by kernel_rfl) (by simp) ?_
      refine AllReadyH.cons (by simp; rfl) (fun Kc hKc => ?_) AllReadyH.nil
      rw [if_pos (by rfl)]
      refine run_alloc_is 23 rfl (allocV v1) ?_
      simp only [Act.put, List.setIfInBounds_toArray, List.set_cons_zero, List.set_cons_succ]
      have HBv2 : Hid (Below w1.heap.size w1 (v1.alloc (.cells (U8 (zs 32)).toArray 23))) := below_then HBv1.out (below_alloc _ _)
      have HQv2 : Hid (VAt (v1.alloc (.cells (U8 (zs 32)).toArray 23)) v1.heap.size (zs 32)) := LAt.new 23 _ _
      have HZa : Hid (w1.heap.size ≤ v1.heap.size) := HBv1.out.size
      clear HBv1 hHeld
      generalize v1.alloc (.cells (U8 (zs 32)).toArray 23) = v2 at *
      refine hKc.out _ _ (HS.out.later HBv2.out) (fun hHeld => ?_)
      clear hKc Kc
      refine wpAnyH_ready (rs := [12]) (by kernel_rfl) (by simp) ?_
      refine AllReadyH.cons (by simp; rfl) (fun Kc hKc => ?_) AllReadyH.nil
      rw [if_pos (by rfl)]
      refine run_store_is 23 rfl rfl rfl (VAt.store HQv2.out (zs_len 32) HXL.out) ?_
      simp only [Act.put]
      have HBv3 : Hid (Below w1.heap.size w1 (v2.setRow v1.heap.size (U8 X.1).toArray)) := below_setRow HBv2.out HZa.out _
      have HQv3 : Hid (VAt (v2.setRow v1.heap.size (U8 X.1).toArray) v1.heap.size X.1) := LAt.stored HQv2.out _
      clear HBv2 HQv2 hHeld
      generalize v2.setRow v1.heap.size (U8 X.1).toArray = v3 at *
      refine hKc.out _ _ (HS.out.later HBv3.out) (fun hHeld => ?_)
      clear hKc Kc
      refine wpAnyH_take (i := 13) (v := ?va10) (by simp; rfl) (by kernel_rfl) (by kernel_rfl) (by kernel_rfl) (fun _ _ _ h => h) (Or.inl ⟨by rfl, ?ya10⟩) hHeld ?ra10
      case ya10 => intro w hSw; clear hSw; go_simp; with_reducible rfl
      simp only [Act.put, List.setIfInBounds_toArray, List.set_cons_zero, List.set_cons_succ]
      clear hHeld
      refine wpAnyH_done (by kernel_rfl) (NoPanic.normal ?_) _
      go_wp2_with fail
      refine wp_region_noPanic ?_
      refine wp_region_held_drew (S := (fun w' => See w' g p r s vt vw w.heap.size (ocells 2 b v raw keep o false) (w.heap.size + 1) s)) (by kernel_rfl) (HS.out.later (below_then HBv3.out (below_drawn 1))) (fun hHeld => ?_)
      have HBv0 : Hid (Below w1.heap.size w1 v3.drew) := below_then HBv3.out (below_drawn 1)
      have HPv0 : Hid (VAt v3.drew v1.heap.size X.1) := HQv3.out.drew
      clear HBv3 HQv3
      generalize v3.drew = v0 at *
      refine wpAnyH_take (i := 0) (v := ?va11) (by simp; rfl) (by kernel_rfl) (by kernel_rfl) (by kernel_rfl) (fun _ _ _ h => h) (Or.inl ⟨by rfl, ?ya11⟩) hHeld ?ra11
      case ya11 => intro w hSw; clear hSw; go_simp; with_reducible rfl
      simp only [Act.put, List.setIfInBounds_toArray, List.set_cons_zero, List.set_cons_succ]
      refine wpAnyH_take (i := 1) (v := ?va12) (by simp; rfl) (by kernel_rfl) (by kernel_rfl) (by kernel_rfl) (fun _ _ _ h => h) (Or.inl ⟨by rfl, ?ya12⟩) hHeld ?ra12
      case ya12 => intro w hSw; clear hSw; go_simp; with_reducible rfl
      simp only [Act.put, List.setIfInBounds_toArray, List.set_cons_zero, List.set_cons_succ]
      refine wpAnyH_take (i := 2) (v := ?va13) (by simp; rfl) (by kernel_rfl) (by kernel_rfl) (by kernel_rfl) (fun _ _ _ h => h) (Or.inl ⟨by rfl, ?ya13⟩) hHeld ?ra13
      case ya13 => intro w hSw; clear hSw; go_simp; with_reducible rfl
      simp only [Act.put, List.setIfInBounds_toArray, List.set_cons_zero, List.set_cons_succ]
      refine wpAnyH_take (i := 3) (v := ?va14) (by simp; rfl) (by kernel_rfl) (by kernel_rfl) (by kernel_rfl) (fun _ _ _ h => h) (Or.inl ⟨by rfl, ?ya14⟩) hHeld ?ra14
      case ya14 => intro w hSw; have z := KAt.c1 hSw.desk; clear hSw; go_simp; with_reducible rfl
      simp only [Act.put, List.setIfInBounds_toArray, List.set_cons_zero, List.set_cons_succ]
      refine wpAnyH_take (i := 4) (v := _) (by simp; rfl) (by kernel_rfl) (by kernel_rfl) (by kernel_rfl) (fun _ _ _ h => h) (yieldsIf_load_mid (by rfl) 39 (.tmp 5) rfl (w.heap.size + 1) 0 rfl (ccells s) _ (fun _ h => LAt.range h.cfg) Tryd.underlying39 rfl (by rw [size23, ccells_len])) hHeld ?_
      simp only [Act.put, List.setIfInBounds_toArray, List.set_cons_zero, List.set_cons_succ]
      refine wpAnyH_take (i := 5) (v := ?va15) (by simp; rfl) (by kernel_rfl) (by kernel_rfl) (by kernel_rfl) (fun _ _ _ h => h) (Or.inl ⟨by rfl, ?ya15⟩) hHeld ?ra15
      case ya15 => intro w hSw; clear hSw; go_simp; with_reducible rfl
      simp only [Act.put, List.setIfInBounds_toArray, List.set_cons_zero, List.set_cons_succ]
      refine wpAnyH_take (i := 6) (v := ?va16) (by simp; rfl) (by kernel_rfl) (by kernel_rfl) (by kernel_rfl) (fun _ _ _ h => h) (Or.inl ⟨by rfl, ?ya16⟩) hHeld ?ra16
      case ya16 => intro w hSw; have z := OAt.block hSw.op; clear hSw; go_simp; with_reducible rfl
      simp only [Act.put, List.setIfInBounds_toArray, List.set_cons_zero, List.set_cons_succ]
      refine wpAnyH_ready (rs := [7, 11]) (by kernel_rfl) (by simp) ?_
      refine AllReadyH.cons (by simp; rfl) (fun Kc hKc => ?_) (AllReadyH.cons (by simp; rfl) (fun Kc hKc => ?_) AllReadyH.nil)
      · go_simp
        refine (rload8_any s b (HD.out.later HBv0.out).ref (by omega)).mono ?_
        rintro e v21 ⟨rfl, bn⟩
        rw [← HX.out]
        have HBv21 : Hid (Below w1.heap.size w1 v21) := below_then HBv0.out bn
        have HPv21 : Hid (VAt v21 v1.heap.size X.1) := LAt.later HPv0.out bn
        clear bn HBv0 HPv0 hHeld
        refine hKc.out _ _ (HS.out.later HBv21.out) (fun hHeld => ?_)
        clear hKc Kc
        refine wpAnyH_take (i := 8) (v := ?va17) (by simp; rfl) (by kernel_rfl) (by kernel_rfl) (by kernel_rfl) (fun _ _ _ h => h) (Or.inl ⟨by rfl, ?ya17⟩) hHeld ?ra17
        case ya17 => intro w hSw; clear hSw; go_simp; with_reducible rfl
        simp only [Act.put, List.setIfInBounds_toArray, List.set_cons_zero, List.set_cons_succ]
        refine wpAnyH_take (i := 9) (v := ?va18) (by simp; rfl) (by kernel_rfl) (by kernel_rfl) (by kernel_rfl) (fun _ _ _ h => h) (Or.inl ⟨by rfl, ?ya18⟩) hHeld ?ra18
        case ya18 => intro w hSw; clear hSw; go_simp; with_reducible rfl
        simp only [Act.put, List.setIfInBounds_toArray, List.set_cons_zero, List.set_cons_succ]
        refine wpAnyH_take (i := 10) (v := ?va19) (by simp; rfl) (by kernel_rfl) (by kernel_rfl) (by kernel_rfl) (fun _ _ _ h => h) (Or.inl ⟨by rfl, ?ya19⟩) hHeld ?ra19
        case ya19 => intro w hSw; clear hSw; go_simp; with_reducible rfl
        simp only [Act.put, List.setIfInBounds_toArray, List.set_cons_zero, List.set_cons_succ]
        refine wpAnyH_ready (rs := [11]) (by kernel_rfl) (by simp) ?_
        refine AllReadyH.cons (by simp; rfl) (fun Kc hKc => ?_) AllReadyH.nil
        rw [if_pos (by rfl)]
        refine run_alloc_is 23 rfl (allocV v21) ?_
        simp only [Act.put, List.setIfInBounds_toArray, List.set_cons_zero, List.set_cons_succ]
        have HBv22 : Hid (Below w1.heap.size w1 (v21.alloc (.cells (U8 (zs 32)).toArray 23))) := below_then HBv21.out (below_alloc _ _)
        have HQv22 : Hid (VAt (v21.alloc (.cells (U8 (zs 32)).toArray 23)) v21.heap.size (zs 32)) := LAt.new 23 _ _
        have HZb : Hid (w1.heap.size ≤ v21.heap.size) := HBv21.out.size
        have HPv22 : Hid (VAt (v21.alloc (.cells (U8 (zs 32)).toArray 23)) v1.heap.size X.1) := LAt.later HPv21.out (below_alloc _ _)
        have HN : Hid (v1.heap.size < v21.heap.size) := LAt.lt HPv21.out
        clear HBv21 HPv21 hHeld
        generalize v21.alloc (.cells (U8 (zs 32)).toArray 23) = v22 at *
        refine hKc.out _ _ (HS.out.later HBv22.out) (fun hHeld => ?_)
        clear hKc Kc
        refine wpAnyH_ready (rs := [12]) (by kernel_rfl) (by simp) ?_
        refine AllReadyH.cons (by simp; rfl) (fun Kc hKc => ?_) AllReadyH.nil
        rw [if_pos (by rfl)]
        refine run_store_is 23 rfl rfl rfl (VAt.store HQv22.out (zs_len 32) HXL.out) ?_
        simp only [Act.put]
        have HBv23 : Hid (Below w1.heap.size w1 (v22.setRow v21.heap.size (U8 X.1).toArray)) := below_setRow HBv22.out HZb.out _
        have HQv23 : Hid (VAt (v22.setRow v21.heap.size (U8 X.1).toArray) v21.heap.size X.1) := LAt.stored HQv22.out _
        have HPv23 : Hid (VAt (v22.setRow v21.heap.size (U8 X.1).toArray) v1.heap.size X.1) := LAt.other HPv22.out _ (Nat.ne_of_lt HN.out)
        clear HBv22 HQv22 HPv22 HN hHeld
        generalize v22.setRow v21.heap.size (U8 X.1).toArray = v23 at *
        refine hKc.out _ _ (HS.out.later HBv23.out) (fun hHeld => ?_)
        clear hKc Kc
        refine wpAnyH_take (i := 13) (v := ?va20) (by simp; rfl) (by kernel_rfl) (by kernel_rfl) (by kernel_rfl) (fun _ _ _ h => h) (Or.inl ⟨by rfl, ?ya20⟩) hHeld ?ra20
        case ya20 => intro w hSw; clear hSw; go_simp; with_reducible rfl
        simp only [Act.put, List.setIfInBounds_toArray, List.set_cons_zero, List.set_cons_succ]
        clear hHeld
        refine wpAnyH_done (by kernel_rfl) (NoPanic.normal ?_) _
        have LP : Hid (_) := VAt.load HPv23.out HXL.out
        have LQ : Hid (_) := VAt.load HQv23.out HXL.out
        have QE : Hid ((binOp .eql 23 (.agg (U8 X.1).toArray) (.agg (U8 X.1).toArray)).run Tryd.prog v23 = .ok (.bool true) v23) := by
          have := eqlV v23 X.1 X.1 HXL.out HXL.out
          rw [decide_eq_true rfl] at this
          exact this
        go_wp2_with ((with_reducible refine at_ops ?_); (first | (refine wpList_load_is (by rfl) 23 rfl rfl LP.out ?_) | (refine wpList_load_is (by rfl) 23 rfl rfl LQ.out ?_) | (refine wpList_eql_is (by rfl) 23 rfl rfl rfl eqgV QE.out ?_)); simp only [Act.put, List.setIfInBounds_toArray, List.set_cons_zero, List.set_cons_succ])
        go_ret
        exact ⟨by simp, ⟨R, d, ws, m, HD.out.later HBv23.out, by omega, by omega, Nat.le_trans HBB.out (Nat.le_trans HB.out.size HBv23.out.size)⟩, (HB.out.mono HBB.out).trans (HBv23.out.mono (Nat.le_trans HBB.out HB.out.size))⟩
      · rw [if_pos (by rfl)]
        refine run_alloc_is 23 rfl (allocV v0) ?_
        simp only [Act.put, List.setIfInBounds_toArray, List.set_cons_zero, List.set_cons_succ]
        have HBv21 : Hid (Below w1.heap.size w1 (v0.alloc (.cells (U8 (zs 32)).toArray 23))) := below_then HBv0.out (below_alloc _ _)
        have HQv21 : Hid (VAt (v0.alloc (.cells (U8 (zs 32)).toArray 23)) v0.heap.size (zs 32)) := LAt.new 23 _ _
        have HZb : Hid (w1.heap.size ≤ v0.heap.size) := HBv0.out.size
        have HPv21 : Hid (VAt (v0.alloc (.cells (U8 (zs 32)).toArray 23)) v1.heap.size X.1) := LAt.later HPv0.out (below_alloc _ _)
        have HN : Hid (v1.heap.size < v0.heap.size) := LAt.lt HPv0.out
        clear HBv0 HPv0 hHeld
        generalize v0.alloc (.cells (U8 (zs 32)).toArray 23) = v21 at *
        refine hKc.out _ _ (HS.out.later HBv21.out) (fun hHeld => ?_)
        clear hKc Kc
        refine wpAnyH_ready (rs := [7]) (by kernel_rfl) (by simp) ?_
        refine AllReadyH.cons (by simp; rfl) (fun Kc hKc => ?_) AllReadyH.nil
        go_simp
        refine (rload8_any s b (HD.out.later HBv21.out).ref (by omega)).mono ?_
        rintro e v22 ⟨rfl, bn⟩
        rw [← HX.out]
        have HBv22 : Hid (Below w1.heap.size w1 v22) := below_then HBv21.out bn
        have HQv22 : Hid (VAt v22 v0.heap.size (zs 32)) := LAt.later HQv21.out bn
        have HPv22 : Hid (VAt v22 v1.heap.size X.1) := LAt.later HPv21.out bn
        clear bn HBv21 HQv21 HPv21 hHeld
        refine hKc.out _ _ (HS.out.later HBv22.out) (fun hHeld => ?_)
        clear hKc Kc
        refine wpAnyH_take (i := 8) (v := ?va21) (by simp; rfl) (by kernel_rfl) (by kernel_rfl) (by kernel_rfl) (fun _ _ _ h => h) (Or.inl ⟨by rfl, ?ya21⟩) hHeld ?ra21
        case ya21 => intro w hSw; clear hSw; go_simp; with_reducible rfl
        simp only [Act.put, List.setIfInBounds_toArray, List.set_cons_zero, List.set_cons_succ]
        refine wpAnyH_take (i := 9) (v := ?va22) (by simp; rfl) (by kernel_rfl) (by kernel_rfl) (by kernel_rfl) (fun _ _ _ h => h) (Or.inl ⟨by rfl, ?ya22⟩) hHeld ?ra22
        case ya22 => intro w hSw; clear hSw; go_simp; with_reducible rfl
        simp only [Act.put, List.setIfInBounds_toArray, List.set_cons_zero, List.set_cons_succ]
        refine wpAnyH_take (i := 10) (v := ?va23) (by simp; rfl) (by kernel_rfl) (by kernel_rfl) (by kernel_rfl) (fun _ _ _ h => h) (Or.inl ⟨by rfl, ?ya23⟩) hHeld ?ra23
        case ya23 => intro w hSw; clear hSw; go_simp; with_reducible rfl
        simp only [Act.put, List.setIfInBounds_toArray, List.set_cons_zero, List.set_cons_succ]
        refine wpAnyH_ready (rs := [12]) (by kernel_rfl) (by simp) ?_
        refine AllReadyH.cons (by simp; rfl) (fun Kc hKc => ?_) AllReadyH.nil
        rw [if_pos (by rfl)]
        refine run_store_is 23 rfl rfl rfl (VAt.store HQv22.out (zs_len 32) HXL.out) ?_
        simp only [Act.put]
        have HBv23 : Hid (Below w1.heap.size w1 (v22.setRow v0.heap.size (U8 X.1).toArray)) := below_setRow HBv22.out HZb.out _
        have HQv23 : Hid (VAt (v22.setRow v0.heap.size (U8 X.1).toArray) v0.heap.size X.1) := LAt.stored HQv22.out _
        have HPv23 : Hid (VAt (v22.setRow v0.heap.size (U8 X.1).toArray) v1.heap.size X.1) := LAt.other HPv22.out _ (Nat.ne_of_lt HN.out)
        clear HBv22 HQv22 HPv22 HN hHeld
        generalize v22.setRow v0.heap.size (U8 X.1).toArray = v23 at *
        refine hKc.out _ _ (HS.out.later HBv23.out) (fun hHeld => ?_)
        clear hKc Kc
        refine wpAnyH_take (i := 13) (v := ?va24) (by simp; rfl) (by kernel_rfl) (by kernel_rfl) (by kernel_rfl) (fun _ _ _ h => h) (Or.inl ⟨by rfl, ?ya24⟩) hHeld ?ra24
        case ya24 => intro w hSw; clear hSw; go_simp; with_reducible rfl
        simp only [Act.put, List.setIfInBounds_toArray, List.set_cons_zero, List.set_cons_succ]
        clear hHeld
        refine wpAnyH_done (by kernel_rfl) (NoPanic.normal ?_) _
        have LP : Hid (_) := VAt.load HPv23.out HXL.out
        have LQ : Hid (_) := VAt.load HQv23.out HXL.out
        have QE : Hid ((binOp .eql 23 (.agg (U8 X.1).toArray) (.agg (U8 X.1).toArray)).run Tryd.prog v23 = .ok (.bool true) v23) := by
          have := eqlV v23 X.1 X.1 HXL.out HXL.out
          rw [decide_eq_true rfl] at this
          exact this
        go_wp2_with ((with_reducible refine at_ops ?_); (first | (refine wpList_load_is (by rfl) 23 rfl rfl LP.out ?_) | (refine wpList_load_is (by rfl) 23 rfl rfl LQ.out ?_) | (refine wpList_eql_is (by rfl) 23 rfl rfl rfl eqgV QE.out ?_)); simp only [Act.put, List.setIfInBounds_toArray, List.set_cons_zero, List.set_cons_succ])
        go_ret
        exact ⟨by simp, ⟨R, d, ws, m, HD.out.later HBv23.out, by omega, by omega, Nat.le_trans HBB.out (Nat.le_trans HB.out.size HBv23.out.size)⟩, (HB.out.mono HBB.out).trans (HBv23.out.mono (Nat.le_trans HBB.out HB.out.size))⟩
    · rw [if_pos (by rfl)]
      refine run_alloc_is 23 rfl (allocV u) ?_
      simp only [Act.put, List.setIfInBounds_toArray, List.set_cons_zero, List.set_cons_succ]
      have HBv1 : Hid (Below w1.heap.size w1 (u.alloc (.cells (U8 (zs 32)).toArray 23))) := below_then HBu.out (below_alloc _ _)
      have HQv1 : Hid (VAt (u.alloc (.cells (U8 (zs 32)).toArray 23)) u.heap.size (zs 32)) := LAt.new 23 _ _
      have HZa : Hid (w1.heap.size ≤ u.heap.size) := HBu.out.size
      clear HBu hHeld
      generalize u.alloc (.cells (U8 (zs 32)).toArray 23) = v1 at *
      refine hKc.out _ _ (HS.out.later HBv1.out) (fun hHeld => ?_)
      clear hKc Kc
      refine wpAnyH_ready (rs := [7]) (by kernel_rfl) (by simp) ?_
      refine AllReadyH.cons (by simp; rfl) (fun Kc hKc => ?_) AllReadyH.nil
      go_simp
      refine (hload_any s b (HD.out.later HBv1.out).dsk (HD.out.later HBv1.out).tab).mono ?_
      rintro e v2 ⟨rfl, bn⟩
      rw [← HX.out]
      have HBv2 : Hid (Below w1.heap.size w1 v2) := below_then HBv1.out bn
      have HQv2 : Hid (VAt v2 u.heap.size (zs 32)) := LAt.later HQv1.out bn
      clear bn HBv1 HQv1 hHeld
      refine hKc.out _ _ (HS.out.later HBv2.out) (fun hHeld => ?_)
      clear hKc Kc
      refine wpAnyH_take (i := 8) (v := ?va25) (by simp; rfl) (by kernel_rfl) (by kernel_rfl) (by kernel_rfl) (fun _ _ _ h => h) (Or.inl ⟨by rfl, ?ya25⟩) hHeld ?ra25
      case ya25 => intro w hSw; clear hSw; go_simp; with_reducible rfl
      simp only [Act.put, List.setIfInBounds_toArray, List.set_cons_zero, List.set_cons_succ]
      refine wpAnyH_take (i := 9) (v := ?va26) (by simp; rfl) (by kernel_rfl) (by kernel_rfl) (by kernel_rfl) (fun _ _ _ h => h) (Or.inl ⟨by rfl, ?ya26⟩) hHeld ?ra26
      case ya26 => intro w hSw; clear hSw; go_simp; with_reducible rfl
      simp only [Act.put, List.setIfInBounds_toArray, List.set_cons_zero, List.set_cons_succ]
      refine wpAnyH_take (i := 10) (v := ?va27) (by simp; rfl) (by kernel_rfl) (by kernel_rfl) (by kernel_rfl) (fun _ _ _ h => h) (Or.inl ⟨by rfl, ?ya27⟩) hHeld ?ra27
      case ya27 => intro w hSw; clear hSw; go_simp; with_reducible rfl
      simp only [Act.put, List.setIfInBounds_toArray, List.set_cons_zero, List.set_cons_succ]
      refine wpAnyH_ready (rs := [12]) (by kernel_rfl) (by simp) ?_
      refine AllReadyH.cons (by simp; rfl) (fun Kc hKc => ?_) AllReadyH.nil
      rw [if_pos (by rfl)]
      refine run_store_is 23 rfl rfl rfl (VAt.store HQv2.out (zs_len 32) HXL.out) ?_
      simp only [Act.put]
      have HBv3 : Hid (Below w1.heap.size w1 (v2.setRow u.heap.size (U8 X.1).toArray)) := below_setRow HBv2.out HZa.out _
      have HQv3 : Hid (VAt (v2.setRow u.heap.size (U8 X.1).toArray) u.heap.size X.1) := LAt.stored HQv2.out _
      clear HBv2 HQv2 hHeld
      generalize v2.setRow u.heap.size (U8 X.1).toArray = v3 at *
      refine hKc.out _ _ (HS.out.later HBv3.out) (fun hHeld => ?_)
      clear hKc Kc
      refine wpAnyH_take (i := 13) (v := ?va28) (by simp; rfl) (by kernel_rfl) (by kernel_rfl) (by kernel_rfl) (fun _ _ _ h => h) (Or.inl ⟨by rfl, ?ya28⟩) hHeld ?ra28
      case ya28 => intro w hSw; clear hSw; go_simp; with_reducible rfl
      simp only [Act.put, List.setIfInBounds_toArray, List.set_cons_zero, List.set_cons_succ]
      clear hHeld
      refine wpAnyH_done (by kernel_rfl) (NoPanic.normal ?_) _
      go_wp2_with fail
      refine wp_region_noPanic ?_
      refine wp_region_held_drew (S := (fun w' => See w' g p r s vt vw w.heap.size (ocells 2 b v raw keep o false) (w.heap.size + 1) s)) (by kernel_rfl) (HS.out.later (below_then HBv3.out (below_drawn 1))) (fun hHeld => ?_)
      have HBv0 : Hid (Below w1.heap.size w1 v3.drew) := below_then HBv3.out (below_drawn 1)
      have HPv0 : Hid (VAt v3.drew u.heap.size X.1) := HQv3.out.drew
      clear HBv3 HQv3
      generalize v3.drew = v0 at *
      refine wpAnyH_take (i := 0) (v := ?va29) (by simp; rfl) (by kernel_rfl) (by kernel_rfl) (by kernel_rfl) (fun _ _ _ h => h) (Or.inl ⟨by rfl, ?ya29⟩) hHeld ?ra29
      case ya29 => intro w hSw; clear hSw; go_simp; with_reducible rfl
      simp only [Act.put, List.setIfInBounds_toArray, List.set_cons_zero, List.set_cons_succ]
      refine wpAnyH_take (i := 1) (v := ?va30) (by simp; rfl) (by kernel_rfl) (by kernel_rfl) (by kernel_rfl) (fun _ _ _ h => h) (Or.inl ⟨by rfl, ?ya30⟩) hHeld ?ra30
      case ya30 => intro w hSw; clear hSw; go_simp; with_reducible rfl
      simp only [Act.put, List.setIfInBounds_toArray, List.set_cons_zero, List.set_cons_succ]
      refine wpAnyH_take (i := 2) (v := ?va31) (by simp; rfl) (by kernel_rfl) (by kernel_rfl) (by kernel_rfl) (fun _ _ _ h => h) (Or.inl ⟨by rfl, ?ya31⟩) hHeld ?ra31
      case ya31 => intro w hSw; clear hSw; go_simp; with_reducible rfl
      simp only [Act.put, List.setIfInBounds_toArray, List.set_cons_zero, List.set_cons_succ]
      refine wpAnyH_take (i := 3) (v := ?va32) (by simp; rfl) (by kernel_rfl) (by kernel_rfl) (by kernel_rfl) (fun _ _ _ h => h) (Or.inl ⟨by rfl, ?ya32⟩) hHeld ?ra32
      case ya32 => intro w hSw; have z := KAt.c1 hSw.desk; clear hSw; go_simp; with_reducible rfl
      simp only [Act.put, List.setIfInBounds_toArray, List.set_cons_zero, List.set_cons_succ]
      refine wpAnyH_take (i := 4) (v := _) (by simp; rfl) (by kernel_rfl) (by kernel_rfl) (by kernel_rfl) (fun _ _ _ h => h) (yieldsIf_load_mid (by rfl) 39 (.tmp 5) rfl (w.heap.size + 1) 0 rfl (ccells s) _ (fun _ h => LAt.range h.cfg) Tryd.underlying39 rfl (by rw [size23, ccells_len])) hHeld ?_
      simp only [Act.put, List.setIfInBounds_toArray, List.set_cons_zero, List.set_cons_succ]
      refine wpAnyH_take (i := 5) (v := ?va33) (by simp; rfl) (by kernel_rfl) (by kernel_rfl) (by kernel_rfl) (fun _ _ _ h => h) (Or.inl ⟨by rfl, ?ya33⟩) hHeld ?ra33
      case ya33 => intro w hSw; clear hSw; go_simp; with_reducible rfl
      simp only [Act.put, List.setIfInBounds_toArray, List.set_cons_zero, List.set_cons_succ]
      refine wpAnyH_take (i := 6) (v := ?va34) (by simp; rfl) (by kernel_rfl) (by kernel_rfl) (by kernel_rfl) (fun _ _ _ h => h) (Or.inl ⟨by rfl, ?ya34⟩) hHeld ?ra34
      case ya34 => intro w hSw; have z := OAt.block hSw.op; clear hSw; go_simp; with_reducible rfl
      simp only [Act.put, List.setIfInBounds_toArray, List.set_cons_zero, List.set_cons_succ]
      refine wpAnyH_ready (rs := [7, 11]) (by kernel_rfl) (by simp) ?_
      refine AllReadyH.cons (by simp; rfl) (fun Kc hKc => ?_) (AllReadyH.cons (by simp; rfl) (fun Kc hKc => ?_) AllReadyH.nil)
      · go_simp
        refine (rload8_any s b (HD.out.later HBv0.out).ref (by omega)).mono ?_
        rintro e v21 ⟨rfl, bn⟩
        rw [← HX.out]
        have HBv21 : Hid (Below w1.heap.size w1 v21) := below_then HBv0.out bn
        have HPv21 : Hid (VAt v21 u.heap.size X.1) := LAt.later HPv0.out bn
        clear bn HBv0 HPv0 hHeld
        refine hKc.out _ _ (HS.out.later HBv21.out) (fun hHeld => ?_)
        clear hKc Kc
        refine wpAnyH_take (i := 8) (v := ?va35) (by simp; rfl) (by kernel_rfl) (by kernel_rfl) (by kernel_rfl) (fun _ _ _ h => h) (Or.inl ⟨by rfl, ?ya35⟩) hHeld ?ra35
        case ya35 => intro w hSw; clear hSw; go_simp; with_reducible rfl
        simp only [Act.put, List.setIfInBounds_toArray, List.set_cons_zero, List.set_cons_succ]
        refine wpAnyH_take (i := 9) (v := ?va36) (by simp; rfl) (by kernel_rfl) (by kernel_rfl) (by kernel_rfl) (fun _ _ _ h => h) (Or.inl ⟨by rfl, ?ya36⟩) hHeld ?ra36
        case ya36 => intro w hSw; clear hSw; go_simp; with_reducible rfl
        simp only [Act.put, List.setIfInBounds_toArray, List.set_cons_zero, List.set_cons_succ]
        refine wpAnyH_take (i := 10) (v := ?va37) (by simp; rfl) (by kernel_rfl) (by kernel_rfl) (by kernel_rfl) (fun _ _ _ h => h) (Or.inl ⟨by rfl, ?ya37⟩) hHeld ?ra37
        case ya37 => intro w hSw; clear hSw; go_simp; with_reducible rfl
        simp only [Act.put, List.setIfInBounds_toArray, List.set_cons_zero, List.set_cons_succ]
        refine wpAnyH_ready (rs := [11]) (by kernel_rfl) (by simp) ?_
        refine AllReadyH.cons (by simp; rfl) (fun Kc hKc => ?_) AllReadyH.nil
        rw [if_pos (by rfl)]
        refine run_alloc_is 23 rfl (allocV v21) ?_
        simp only [Act.put, List.setIfInBounds_toArray, List.set_cons_zero, List.set_cons_succ]
        have HBv22 : Hid (Below w1.heap.size w1 (v21.alloc (.cells (U8 (zs 32)).toArray 23))) := below_then HBv21.out (below_alloc _ _)
        have HQv22 : Hid (VAt (v21.alloc (.cells (U8 (zs 32)).toArray 23)) v21.heap.size (zs 32)) := LAt.new 23 _ _
        have HZb : Hid (w1.heap.size ≤ v21.heap.size) := HBv21.out.size
        have HPv22 : Hid (VAt (v21.alloc (.cells (U8 (zs 32)).toArray 23)) u.heap.size X.1) := LAt.later HPv21.out (below_alloc _ _)
        have HN : Hid (u.heap.size < v21.heap.size) := LAt.lt HPv21.out
        clear HBv21 HPv21 hHeld
        generalize v21.alloc (.cells (U8 (zs 32)).toArray 23) = v22 at *
        refine hKc.out _ _ (HS.out.later HBv22.out) (fun hHeld => ?_)
        clear hKc Kc
        refine wpAnyH_ready (rs := [12]) (by kernel_rfl) (by simp) ?_
        refine AllReadyH.cons (by simp; rfl) (fun Kc hKc => ?_) AllReadyH.nil
        rw [if_pos (by rfl)]
        refine run_store_is 23 rfl rfl rfl (VAt.store HQv22.out (zs_len 32) HXL.out) ?_
        simp only [Act.put]
        have HBv23 : Hid (Below w1.heap.size w1 (v22.setRow v21.heap.size (U8 X.1).toArray)) := below_setRow HBv22.out HZb.out _
        have HQv23 : Hid (VAt (v22.setRow v21.heap.size (U8 X.1).toArray) v21.heap.size X.1) := LAt.stored HQv22.out _
        have HPv23 : Hid (VAt (v22.setRow v21.heap.size (U8 X.1).toArray) u.heap.size X.1) := LAt.other HPv22.out _ (Nat.ne_of_lt HN.out)
        clear HBv22 HQv22 HPv22 HN hHeld
        generalize v22.setRow v21.heap.size (U8 X.1).toArray = v23 at *
        refine hKc.out _ _ (HS.out.later HBv23.out) (fun hHeld => ?_)
        clear hKc Kc
        refine wpAnyH_take (i := 13) (v := ?va38) (by simp; rfl) (by kernel_rfl) (by kernel_rfl) (by kernel_rfl) (fun _ _ _ h => h) (Or.inl ⟨by rfl, ?ya38⟩) hHeld ?ra38
        case ya38 => intro w hSw; clear hSw; go_simp; with_reducible rfl
        simp only [Act.put, List.setIfInBounds_toArray, List.set_cons_zero, List.set_cons_succ]
        clear hHeld
        refine wpAnyH_done (by kernel_rfl) (NoPanic.normal ?_) _
        have LP : Hid (_) := VAt.load HPv23.out HXL.out
        have LQ : Hid (_) := VAt.load HQv23.out HXL.out
        have QE : Hid ((binOp .eql 23 (.agg (U8 X.1).toArray) (.agg (U8 X.1).toArray)).run Tryd.prog v23 = .ok (.bool true) v23) := by
          have := eqlV v23 X.1 X.1 HXL.out HXL.out
          rw [decide_eq_true rfl] at this
          exact this
        go_wp2_with ((with_reducible refine at_ops ?_); (first | (refine wpList_load_is (by rfl) 23 rfl rfl LP.out ?_) | (refine wpList_load_is (by rfl) 23 rfl rfl LQ.out ?_) | (refine wpList_eql_is (by rfl) 23 rfl rfl rfl eqgV QE.out ?_)); simp only [Act.put, List.setIfInBounds_toArray, List.set_cons_zero, List.set_cons_succ])
        go_ret
        exact ⟨by simp, ⟨R, d, ws, m, HD.out.later HBv23.out, by omega, by omega, Nat.le_trans HBB.out (Nat.le_trans HB.out.size HBv23.out.size)⟩, (HB.out.mono HBB.out).trans (HBv23.out.mono (Nat.le_trans HBB.out HB.out.size))⟩
      · rw [if_pos (by rfl)]
        refine run_alloc_is 23 rfl (allocV v0) ?_
        simp only [Act.put, List.setIfInBounds_toArray, List.set_cons_zero, List.set_cons_succ]
        have HBv21 : Hid (Below w1.heap.size w1 (v0.alloc (.cells (U8 (zs 32)).toArray 23))) := below_then HBv0.out (below_alloc _ _)
        have HQv21 : Hid (VAt (v0.alloc (.cells (U8 (zs 32)).toArray 23)) v0.heap.size (zs 32)) := LAt.new 23 _ _
        have HZb : Hid (w1.heap.size ≤ v0.heap.size) := HBv0.out.size
        have HPv21 : Hid (VAt (v0.alloc (.cells (U8 (zs 32)).toArray 23)) u.heap.size X.1) := LAt.later HPv0.out (below_alloc _ _)
        have HN : Hid (u.heap.size < v0.heap.size) := LAt.lt HPv0.out
        clear HBv0 HPv0 hHeld
        generalize v0.alloc (.cells (U8 (zs 32)).toArray 23) = v21 at *
        refine hKc.out _ _ (HS.out.later HBv21.out) (fun hHeld => ?_)
        clear hKc Kc
        refine wpAnyH_ready (rs := [7]) (by kernel_rfl) (by simp) ?_
        refine AllReadyH.cons (by simp; rfl) (fun Kc hKc => ?_) AllReadyH.nil
        go_simp
        refine (rload8_any s b (HD.out.later HBv21.out).ref (by omega)).mono ?_
        rintro e v22 ⟨rfl, bn⟩
        rw [← HX.out]
        have HBv22 : Hid (Below w1.heap.size w1 v22) := below_then HBv21.out bn
        have HQv22 : Hid (VAt v22 v0.heap.size (zs 32)) := LAt.later HQv21.out bn
        have HPv22 : Hid (VAt v22 u.heap.size X.1) := LAt.later HPv21.out bn
        clear bn HBv21 HQv21 HPv21 hHeld
        refine hKc.out _ _ (HS.out.later HBv22.out) (fun hHeld => ?_)
        clear hKc Kc
        refine wpAnyH_take (i := 8) (v := ?va39) (by simp; rfl) (by kernel_rfl) (by kernel_rfl) (by kernel_rfl) (fun _ _ _ h => h) (Or.inl ⟨by rfl, ?ya39⟩) hHeld ?ra39
        case ya39 => intro w hSw; clear hSw; go_simp; with_reducible rfl
        simp only [Act.put, List.setIfInBounds_toArray, List.set_cons_zero, List.set_cons_succ]
        refine wpAnyH_take (i := 9) (v := ?va40) (by simp; rfl) (by kernel_rfl) (by kernel_rfl) (by kernel_rfl) (fun _ _ _ h => h) (Or.inl ⟨by rfl, ?ya40⟩) hHeld ?ra40
        case ya40 => intro w hSw; clear hSw; go_simp; with_reducible rfl
        simp only [Act.put, List.setIfInBounds_toArray, List.set_cons_zero, List.set_cons_succ]
        refine wpAnyH_take (i := 10) (v := ?va41) (by simp; rfl) (by kernel_rfl) (by kernel_rfl) (by kernel_rfl) (fun _ _ _ h => h) (Or.inl ⟨by rfl, ?ya41⟩) hHeld ?ra41
        case ya41 => intro w hSw; clear hSw; go_simp; with_reducible rfl
        simp only [Act.put, List.setIfInBounds_toArray, List.set_cons_zero, List.set_cons_succ]
        refine wpAnyH_ready (rs := [12]) (by kernel_rfl) (by simp) ?_
        refine AllReadyH.cons (by simp; rfl) (fun Kc hKc => ?_) AllReadyH.nil
        rw [if_pos (by rfl)]
        refine run_store_is 23 rfl rfl rfl (VAt.store HQv22.out (zs_len 32) HXL.out) ?_
        simp only [Act.put]
        have HBv23 : Hid (Below w1.heap.size w1 (v22.setRow v0.heap.size (U8 X.1).toArray)) := below_setRow HBv22.out HZb.out _
        have HQv23 : Hid (VAt (v22.setRow v0.heap.size (U8 X.1).toArray) v0.heap.size X.1) := LAt.stored HQv22.out _
        have HPv23 : Hid (VAt (v22.setRow v0.heap.size (U8 X.1).toArray) u.heap.size X.1) := LAt.other HPv22.out _ (Nat.ne_of_lt HN.out)
        clear HBv22 HQv22 HPv22 HN hHeld
        generalize v22.setRow v0.heap.size (U8 X.1).toArray = v23 at *
        refine hKc.out _ _ (HS.out.later HBv23.out) (fun hHeld => ?_)
        clear hKc Kc
        refine wpAnyH_take (i := 13) (v := ?va42) (by simp; rfl) (by kernel_rfl) (by kernel_rfl) (by kernel_rfl) (fun _ _ _ h => h) (Or.inl ⟨by rfl, ?ya42⟩) hHeld ?ra42
        case ya42 => intro w hSw; clear hSw; go_simp; with_reducible rfl
        simp only [Act.put, List.setIfInBounds_toArray, List.set_cons_zero, List.set_cons_succ]
        clear hHeld
        refine wpAnyH_done (by kernel_rfl) (NoPanic.normal ?_) _
        have LP : Hid (_) := VAt.load HPv23.out HXL.out
        have LQ : Hid (_) := VAt.load HQv23.out HXL.out
        have QE : Hid ((binOp .eql 23 (.agg (U8 X.1).toArray) (.agg (U8 X.1).toArray)).run Tryd.prog v23 = .ok (.bool true) v23) := by
          have := eqlV v23 X.1 X.1 HXL.out HXL.out
          rw [decide_eq_true rfl] at this
          exact this
        go_wp2_with ((with_reducible refine at_ops ?_); (first | (refine wpList_load_is (by rfl) 23 rfl rfl LP.out ?_) | (refine wpList_load_is (by rfl) 23 rfl rfl LQ.out ?_) | (refine wpList_eql_is (by rfl) 23 rfl rfl rfl eqgV QE.out ?_)); simp only [Act.put, List.setIfInBounds_toArray, List.set_cons_zero, List.set_cons_succ])
        go_ret
        exact ⟨by simp, ⟨R, d, ws, m, HD.out.later HBv23.out, by omega, by omega, Nat.le_trans HBB.out (Nat.le_trans HB.out.size HBv23.out.size)⟩, (HB.out.mono HBB.out).trans (HBv23.out.mono (Nat.le_trans HBB.out HB.out.size))⟩
  · have L1 : Hid (_) := OAt.load39 O1 hv
    have S1 : Hid (_) := LAt.store (ds := ccells o) C1 size23 rfl (ccells_all o)
    obtain ⟨w2, hw2⟩ : ∃ x, x = w1.setRow (w.heap.size + 1) (ccells o).toArray := ⟨_, rfl⟩
    have b2 : Below w.heap.size w w2 := by rw [hw2]; exact below_setRow b1 (Nat.le_succ _) _
    have C2 : CAt w2 (w.heap.size + 1) o := by rw [hw2]; exact LAt.stored C1 _
    have O2 : OAt w2 w.heap.size 2 b v raw keep o true := by rw [hw2]; exact LAt.other O1 _ (by omega)
    have K2 : KAt w2 g p r s vt vw := by rw [hw2]; exact LAt.other K1 _ (by have hz := hD.hi (w.heap.size + 1) (Nat.le_succ _); have hg := hD.rg; intro c; rw [c, hz] at hg; cases hg)
    rw [← hw2] at S1
    have HD : Hid (Dk w2 R B g p r n s d ws d ws m) := hD.later b2
    have HS : Hid (See w2 g p r s vt vw w.heap.size (ocells 2 b v raw keep o true) (w.heap.size + 1) o) := ⟨K2, O2, C2⟩
    have HB : Hid (Below w.heap.size w w2) := b2
    have kd := OAt.kind O2
    clear hD b0 b1 b2 O1 C1 K1 O2 C2 K2 hw2 hv hvb hB
    go_enter Tryd.func30, Tryd.ntmps30
    go_wp2_with ((with_reducible refine at_ops ?_); (first | (refine wpList_load_is (by rfl) 39 rfl rfl L0.out ?_) | (refine wpList_alloc_is (by rfl) 39 rfl A0.out ?_) | (refine wpList_store_is (by rfl) 39 rfl rfl rfl S0.out ?_) | (refine wpList_load_is (by rfl) 39 rfl rfl L1.out ?_) | (refine wpList_store_is (by rfl) 39 rfl rfl rfl S1.out ?_)); simp only [Act.put, List.setIfInBounds_toArray, List.set_cons_zero, List.set_cons_succ])
    clear c41 kd L0 A0 S0 L1 S1 ew sz0
    obtain ⟨X, hX⟩ : ∃ X, X = ldS o n ws d b := ⟨_, rfl⟩
    have HX : Hid (X = ldS o n ws d b) := hX
    have HXL : Hid (X.1.length = 32) := by rw [hX]; exact ldS_len _ _ _ _ _
    clear hX
    refine wp_region_noPanic ?_
    refine wp_region_held_drew (S := (fun w' => See w' g p r s vt vw w.heap.size (ocells 2 b v raw keep o true) (w.heap.size + 1) o)) (by kernel_rfl) (HS.out.later (below_drawn 1)) (fun hHeld => ?_)
    have HBu : Hid (Below w2.heap.size w2 w2.drew) := below_drawn 1
    generalize w2.drew = u at *
    refine wpAnyH_take (i := 0) (v := ?va43) (by simp; rfl) (by kernel_rfl) (by kernel_rfl) (by kernel_rfl) (fun _ _ _ h => h) (Or.inl ⟨by rfl, ?ya43⟩) hHeld ?ra43
    case ya43 => intro w hSw; clear hSw; go_simp; with_reducible rfl
    simp only [Act.put, List.setIfInBounds_toArray, List.set_cons_zero, List.set_cons_succ]
    refine wpAnyH_take (i := 1) (v := ?va44) (by simp; rfl) (by kernel_rfl) (by kernel_rfl) (by kernel_rfl) (fun _ _ _ h => h) (Or.inl ⟨by rfl, ?ya44⟩) hHeld ?ra44
    case ya44 => intro w hSw; clear hSw; go_simp; with_reducible rfl
    simp only [Act.put, List.setIfInBounds_toArray, List.set_cons_zero, List.set_cons_succ]
    refine wpAnyH_take (i := 2) (v := ?va45) (by simp; rfl) (by kernel_rfl) (by kernel_rfl) (by kernel_rfl) (fun _ _ _ h => h) (Or.inl ⟨by rfl, ?ya45⟩) hHeld ?ra45
    case ya45 => intro w hSw; clear hSw; go_simp; with_reducible rfl
    simp only [Act.put, List.setIfInBounds_toArray, List.set_cons_zero, List.set_cons_succ]
    refine wpAnyH_take (i := 3) (v := ?va46) (by simp; rfl) (by kernel_rfl) (by kernel_rfl) (by kernel_rfl) (fun _ _ _ h => h) (Or.inl ⟨by rfl, ?ya46⟩) hHeld ?ra46
    case ya46 => intro w hSw; have z := KAt.c0 hSw.desk; clear hSw; go_simp; with_reducible rfl
    simp only [Act.put, List.setIfInBounds_toArray, List.set_cons_zero, List.set_cons_succ]
    refine wpAnyH_take (i := 4) (v := _) (by simp; rfl) (by kernel_rfl) (by kernel_rfl) (by kernel_rfl) (fun _ _ _ h => h) (yieldsIf_load_mid (by rfl) 39 (.tmp 5) rfl (w.heap.size + 1) 0 rfl (ccells o) _ (fun _ h => LAt.range h.cfg) Tryd.underlying39 rfl (by rw [size23, ccells_len])) hHeld ?_
    simp only [Act.put, List.setIfInBounds_toArray, List.set_cons_zero, List.set_cons_succ]
    refine wpAnyH_take (i := 5) (v := ?va47) (by simp; rfl) (by kernel_rfl) (by kernel_rfl) (by kernel_rfl) (fun _ _ _ h => h) (Or.inl ⟨by rfl, ?ya47⟩) hHeld ?ra47
    case ya47 => intro w hSw; clear hSw; go_simp; with_reducible rfl
    simp only [Act.put, List.setIfInBounds_toArray, List.set_cons_zero, List.set_cons_succ]
    refine wpAnyH_take (i := 6) (v := ?va48) (by simp; rfl) (by kernel_rfl) (by kernel_rfl) (by kernel_rfl) (fun _ _ _ h => h) (Or.inl ⟨by rfl, ?ya48⟩) hHeld ?ra48
    case ya48 => intro w hSw; have z := OAt.block hSw.op; clear hSw; go_simp; with_reducible rfl
    simp only [Act.put, List.setIfInBounds_toArray, List.set_cons_zero, List.set_cons_succ]
    refine wpAnyH_ready (rs := [7, 11]) (by kernel_rfl) (by simp) ?_
    refine AllReadyH.cons (by simp; rfl) (fun Kc hKc => ?_) (AllReadyH.cons (by simp; rfl) (fun Kc hKc => ?_) AllReadyH.nil)
    · go_simp
      refine (hload_any o b (HD.out.later HBu.out).dsk (HD.out.later HBu.out).tab).mono ?_
      rintro e v1 ⟨rfl, bn⟩
      rw [← HX.out]
      have HBv1 : Hid (Below w2.heap.size w2 v1) := below_then HBu.out bn
      clear bn HBu hHeld
      refine hKc.out _ _ (HS.out.later HBv1.out) (fun hHeld => ?_)
      clear hKc Kc
      refine wpAnyH_take (i := 8) (v := ?va49) (by simp; rfl) (by kernel_rfl) (by kernel_rfl) (by kernel_rfl) (fun _ _ _ h => h) (Or.inl ⟨by rfl, ?ya49⟩) hHeld ?ra49
      case ya49 => intro w hSw; clear hSw; go_simp; with_reducible rfl
      simp only [Act.put, List.setIfInBounds_toArray, List.set_cons_zero, List.set_cons_succ]
      refine wpAnyH_take (i := 9) (v := ?va50) (by simp; rfl) (by kernel_rfl) (by kernel_rfl) (by kernel_rfl) (fun _ _ _ h => h) (Or.inl ⟨by rfl, ?ya50⟩) hHeld ?ra50
      case ya50 => intro w hSw; clear hSw; go_simp; with_reducible rfl
      simp only [Act.put, List.setIfInBounds_toArray, List.set_cons_zero, List.set_cons_succ]
      refine wpAnyH_take (i := 10) (v := ?va51) (by simp; rfl) (by kernel_rfl) (by kernel_rfl) (by kernel_rfl) (fun _ _ _ h => h) (Or.inl ⟨by rfl, ?ya51⟩) hHeld ?ra51
      case ya51 => intro w hSw; clear hSw; go_simp; with_reducible rfl
      simp only [Act.put, List.setIfInBounds_toArray, List.set_cons_zero, List.set_cons_succ]
      refine wpAnyH_ready (rs := [11]) (by kernel_rfl) (by simp) ?_
      refine AllReadyH.cons (by simp; rfl) (fun Kc hKc => ?_) AllReadyH.nil
      rw [if_pos (by rfl)]
      refine run_alloc_is 23 rfl (allocV v1) ?_
      simp only [Act.put, List.setIfInBounds_toArray, List.set_cons_zero, List.set_cons_succ]
      have HBv2 : Hid (Below w2.heap.size w2 (v1.alloc (.cells (U8 (zs 32)).toArray 23))) := below_then HBv1.out (below_alloc _ _)
      have HQv2 : Hid (VAt (v1.alloc (.cells (U8 (zs 32)).toArray 23)) v1.heap.size (zs 32)) := LAt.new 23 _ _
      have HZa : Hid (w2.heap.size ≤ v1.heap.size) := HBv1.out.size
      clear HBv1 hHeld
      generalize v1.alloc (.cells (U8 (zs 32)).toArray 23) = v2 at *
      refine hKc.out _ _ (HS.out.later HBv2.out) (fun hHeld => ?_)
      clear hKc Kc
      refine wpAnyH_ready (rs := [12]) (by kernel_rfl) (by simp) ?_
      refine AllReadyH.cons (by simp; rfl) (fun Kc hKc => ?_) AllReadyH.nil
      rw [if_pos (by rfl)]
      refine run_store_is 23 rfl rfl rfl (VAt.store HQv2.out (zs_len 32) HXL.out) ?_
      simp only [Act.put]
      have HBv3 : Hid (Below w2.heap.size w2 (v2.setRow v1.heap.size (U8 X.1).toArray)) := below_setRow HBv2.out HZa.out _
      have HQv3 : Hid (VAt (v2.setRow v1.heap.size (U8 X.1).toArray) v1.heap.size X.1) := LAt.stored HQv2.out _
      clear HBv2 HQv2 hHeld
      generalize v2.setRow v1.heap.size (U8 X.1).toArray = v3 at *
      refine hKc.out _ _ (HS.out.later HBv3.out) (fun hHeld => ?_)
      clear hKc Kc
      refine wpAnyH_take (i := 13) (v := ?va52) (by simp; rfl) (by kernel_rfl) (by kernel_rfl) (by kernel_rfl) (fun _ _ _ h => h) (Or.inl ⟨by rfl, ?ya52⟩) hHeld ?ra52
      case ya52 => intro w hSw; clear hSw; go_simp; with_reducible rfl
      simp only [Act.put, List.setIfInBounds_toArray, List.set_cons_zero, List.set_cons_succ]
      clear hHeld
      refine wpAnyH_done (by kernel_rfl) (NoPanic.normal ?_) _
      go_wp2_with fail
      refine wp_region_noPanic ?_
      refine wp_region_held_drew (S := (fun w' => See w' g p r s vt vw w.heap.size (ocells 2 b v raw keep o true) (w.heap.size + 1) o)) (by kernel_rfl) (HS.out.later (below_then HBv3.out (below_drawn 1))) (fun hHeld => ?_)
      have HBv0 : Hid (Below w2.heap.size w2 v3.drew) := below_then HBv3.out (below_drawn 1)
      have HPv0 : Hid (VAt v3.drew v1.heap.size X.1) := HQv3.out.drew
      clear HBv3 HQv3
      generalize v3.drew = v0 at *
      refine wpAnyH_take (i := 0) (v := ?va53) (by simp; rfl) (by kernel_rfl) (by kernel_rfl) (by kernel_rfl) (fun _ _ _ h => h) (Or.inl ⟨by rfl, ?ya53⟩) hHeld ?ra53
      case ya53 => intro w hSw; clear hSw; go_simp; with_reducible rfl
      simp only [Act.put, List.setIfInBounds_toArray, List.set_cons_zero, List.set_cons_succ]
      refine wpAnyH_take (i := 1) (v := ?va54) (by simp; rfl) (by kernel_rfl) (by kernel_rfl) (by kernel_rfl) (fun _ _ _ h => h) (Or.inl ⟨by rfl, ?ya54⟩) hHeld ?ra54
      case ya54 => intro w hSw; clear hSw; go_simp; with_reducible rfl
      simp only [Act.put, List.setIfInBounds_toArray, List.set_cons_zero, List.set_cons_succ]
      refine wpAnyH_take (i := 2) (v := ?va55) (by simp; rfl) (by kernel_rfl) (by kernel_rfl) (by kernel_rfl) (fun _ _ _ h => h) (Or.inl ⟨by rfl, ?ya55⟩) hHeld ?ra55
      case ya55 => intro w hSw; clear hSw; go_simp; with_reducible rfl
      simp only [Act.put, List.setIfInBounds_toArray, List.set_cons_zero, List.set_cons_succ]
      refine wpAnyH_take (i := 3) (v := ?va56) (by simp; rfl) (by kernel_rfl) (by kernel_rfl) (by kernel_rfl) (fun _ _ _ h => h) (Or.inl ⟨by rfl, ?ya56⟩) hHeld ?ra56
      case ya56 => intro w hSw; have z := KAt.c1 hSw.desk; clear hSw; go_simp; with_reducible rfl
      simp only [Act.put, List.setIfInBounds_toArray, List.set_cons_zero, List.set_cons_succ]
      refine wpAnyH_take (i := 4) (v := _) (by simp; rfl) (by kernel_rfl) (by kernel_rfl) (by kernel_rfl) (fun _ _ _ h => h) (yieldsIf_load_mid (by rfl) 39 (.tmp 5) rfl (w.heap.size + 1) 0 rfl (ccells o) _ (fun _ h => LAt.range h.cfg) Tryd.underlying39 rfl (by rw [size23, ccells_len])) hHeld ?_
      simp only [Act.put, List.setIfInBounds_toArray, List.set_cons_zero, List.set_cons_succ]
      refine wpAnyH_take (i := 5) (v := ?va57) (by simp; rfl) (by kernel_rfl) (by kernel_rfl) (by kernel_rfl) (fun _ _ _ h => h) (Or.inl ⟨by rfl, ?ya57⟩) hHeld ?ra57
      case ya57 => intro w hSw; clear hSw; go_simp; with_reducible rfl
      simp only [Act.put, List.setIfInBounds_toArray, List.set_cons_zero, List.set_cons_succ]
      refine wpAnyH_take (i := 6) (v := ?va58) (by simp; rfl) (by kernel_rfl) (by kernel_rfl) (by kernel_rfl) (fun _ _ _ h => h) (Or.inl ⟨by rfl, ?ya58⟩) hHeld ?ra58
      case ya58 => intro w hSw; have z := OAt.block hSw.op; clear hSw; go_simp; with_reducible rfl
      simp only [Act.put, List.setIfInBounds_toArray, List.set_cons_zero, List.set_cons_succ]
      refine wpAnyH_ready (rs := [7, 11]) (by kernel_rfl) (by simp) ?_
      refine AllReadyH.cons (by simp; rfl) (fun Kc hKc => ?_) (AllReadyH.cons (by simp; rfl) (fun Kc hKc => ?_) AllReadyH.nil)
      · go_simp
        refine (rload8_any o b (HD.out.later HBv0.out).ref (by omega)).mono ?_
        rintro e v21 ⟨rfl, bn⟩
        rw [← HX.out]
        have HBv21 : Hid (Below w2.heap.size w2 v21) := below_then HBv0.out bn
        have HPv21 : Hid (VAt v21 v1.heap.size X.1) := LAt.later HPv0.out bn
        clear bn HBv0 HPv0 hHeld
        refine hKc.out _ _ (HS.out.later HBv21.out) (fun hHeld => ?_)
        clear hKc Kc
        refine wpAnyH_take (i := 8) (v := ?va59) (by simp; rfl) (by kernel_rfl) (by kernel_rfl) (by kernel_rfl) (fun _ _ _ h => h) (Or.inl ⟨by rfl, ?ya59⟩) hHeld ?ra59
        case ya59 => intro w hSw; clear hSw; go_simp; with_reducible rfl
        simp only [Act.put, List.setIfInBounds_toArray, List.set_cons_zero, List.set_cons_succ]
        refine wpAnyH_take (i := 9) (v := ?va60) (by simp; rfl) (by kernel_rfl) (by kernel_rfl) (by kernel_rfl) (fun _ _ _ h => h) (Or.inl ⟨by rfl, ?ya60⟩) hHeld ?ra60
        case ya60 => intro w hSw; clear hSw; go_simp; with_reducible rfl
        simp only [Act.put, List.setIfInBounds_toArray, List.set_cons_zero, List.set_cons_succ]
        refine wpAnyH_take (i := 10) (v := ?va61) (by simp; rfl) (by kernel_rfl) (by kernel_rfl) (by kernel_rfl) (fun _ _ _ h => h) (Or.inl ⟨by rfl, ?ya61⟩) hHeld ?ra61
        case ya61 => intro w hSw; clear hSw; go_simp; with_reducible rfl
        simp only [Act.put, List.setIfInBounds_toArray, List.set_cons_zero, List.set_cons_succ]
        refine wpAnyH_ready (rs := [11]) (by kernel_rfl) (by simp) ?_
        refine AllReadyH.cons (by simp; rfl) (fun Kc hKc => ?_) AllReadyH.nil
        rw [if_pos (by rfl)]
        refine run_alloc_is 23 rfl (allocV v21) ?_
        simp only [Act.put, List.setIfInBounds_toArray, List.set_cons_zero, List.set_cons_succ]
        have HBv22 : Hid (Below w2.heap.size w2 (v21.alloc (.cells (U8 (zs 32)).toArray 23))) := below_then HBv21.out (below_alloc _ _)
        have HQv22 : Hid (VAt (v21.alloc (.cells (U8 (zs 32)).toArray 23)) v21.heap.size (zs 32)) := LAt.new 23 _ _
        have HZb : Hid (w2.heap.size ≤ v21.heap.size) := HBv21.out.size
        have HPv22 : Hid (VAt (v21.alloc (.cells (U8 (zs 32)).toArray 23)) v1.heap.size X.1) := LAt.later HPv21.out (below_alloc _ _)
        have HN : Hid (v1.heap.size < v21.heap.size) := LAt.lt HPv21.out
        clear HBv21 HPv21 hHeld
        generalize v21.alloc (.cells (U8 (zs 32)).toArray 23) = v22 at *
        refine hKc.out _ _ (HS.out.later HBv22.out) (fun hHeld => ?_)
        clear hKc Kc
        refine wpAnyH_ready (rs := [12]) (by kernel_rfl) (by simp) ?_
        refine AllReadyH.cons (by simp; rfl) (fun Kc hKc => ?_) AllReadyH.nil
        rw [if_pos (by rfl)]
        refine run_store_is 23 rfl rfl rfl (VAt.store HQv22.out (zs_len 32) HXL.out) ?_
        simp only [Act.put]
        have HBv23 : Hid (Below w2.heap.size w2 (v22.setRow v21.heap.size (U8 X.1).toArray)) := below_setRow HBv22.out HZb.out _
        have HQv23 : Hid (VAt (v22.setRow v21.heap.size (U8 X.1).toArray) v21.heap.size X.1) := LAt.stored HQv22.out _
        have HPv23 : Hid (VAt (v22.setRow v21.heap.size (U8 X.1).toArray) v1.heap.size X.1) := LAt.other HPv22.out _ (Nat.ne_of_lt HN.out)
        clear HBv22 HQv22 HPv22 HN hHeld
        generalize v22.setRow v21.heap.size (U8 X.1).toArray = v23 at *
        refine hKc.out _ _ (HS.out.later HBv23.out) (fun hHeld => ?_)
        clear hKc Kc
        refine wpAnyH_take (i := 13) (v := ?va62) (by simp; rfl) (by kernel_rfl) (by kernel_rfl) (by kernel_rfl) (fun _ _ _ h => h) (Or.inl ⟨by rfl, ?ya62⟩) hHeld ?ra62
        case ya62 => intro w hSw; clear hSw; go_simp; with_reducible rfl
        simp only [Act.put, List.setIfInBounds_toArray, List.set_cons_zero, List.set_cons_succ]
        clear hHeld
        refine wpAnyH_done (by kernel_rfl) (NoPanic.normal ?_) _
        have LP : Hid (_) := VAt.load HPv23.out HXL.out
        have LQ : Hid (_) := VAt.load HQv23.out HXL.out
        have QE : Hid ((binOp .eql 23 (.agg (U8 X.1).toArray) (.agg (U8 X.1).toArray)).run Tryd.prog v23 = .ok (.bool true) v23) := by
          have := eqlV v23 X.1 X.1 HXL.out HXL.out
          rw [decide_eq_true rfl] at this
          exact this
        go_wp2_with ((with_reducible refine at_ops ?_); (first | (refine wpList_load_is (by rfl) 23 rfl rfl LP.out ?_) | (refine wpList_load_is (by rfl) 23 rfl rfl LQ.out ?_) | (refine wpList_eql_is (by rfl) 23 rfl rfl rfl eqgV QE.out ?_)); simp only [Act.put, List.setIfInBounds_toArray, List.set_cons_zero, List.set_cons_succ])
        go_ret
        exact ⟨by simp, ⟨R, d, ws, m, HD.out.later HBv23.out, by omega, by omega, Nat.le_trans HBB.out (Nat.le_trans HB.out.size HBv23.out.size)⟩, (HB.out.mono HBB.out).trans (HBv23.out.mono (Nat.le_trans HBB.out HB.out.size))⟩
      · rw [if_pos (by rfl)]
        refine run_alloc_is 23 rfl (allocV v0) ?_
        simp only [Act.put, List.setIfInBounds_toArray, List.set_cons_zero, List.set_cons_succ]
        have HBv21 : Hid (Below w2.heap.size w2 (v0.alloc (.cells (U8 (zs 32)).toArray 23))) := below_then HBv0.out (below_alloc _ _)
        have HQv21 : Hid (VAt (v0.alloc (.cells (U8 (zs 32)).toArray 23)) v0.heap.size (zs 32)) := LAt.new 23 _ _
        have HZb : Hid (w2.heap.size ≤ v0.heap.size) := HBv0.out.size
        have HPv21 : Hid (VAt (v0.alloc (.cells (U8 (zs 32)).toArray 23)) v1.heap.size X.1) := LAt.later HPv0.out (below_alloc _ _)
        have HN : Hid (v1.heap.size < v0.heap.size) := LAt.lt HPv0.out
        clear HBv0 HPv0 hHeld
        generalize v0.alloc (.cells (U8 (zs 32)).toArray 23) = v21 at *
        refine hKc.out _ _ (HS.out.later HBv21.out) (fun hHeld => ?_)
        clear hKc Kc
        refine wpAnyH_ready (rs := [7]) (by kernel_rfl) (by simp) ?_
        refine AllReadyH.cons (by simp; rfl) (fun Kc hKc => ?_) AllReadyH.nil
        go_simp
        refine (rload8_any o b (HD.out.later HBv21.out).ref (by omega)).mono ?_
        rintro e v22 ⟨rfl, bn⟩
        rw [← HX.out]
        have HBv22 : Hid (Below w2.heap.size w2 v22) := below_then HBv21.out bn
        have HQv22 : Hid (VAt v22 v0.heap.size (zs 32)) := LAt.later HQv21.out bn
        have HPv22 : Hid (VAt v22 v1.heap.size X.1) := LAt.later HPv21.out bn
        clear bn HBv21 HQv21 HPv21 hHeld
        refine hKc.out _ _ (HS.out.later HBv22.out) (fun hHeld => ?_)
        clear hKc Kc
        refine wpAnyH_take (i := 8) (v := ?va63) (by simp; rfl) (by kernel_rfl) (by kernel_rfl) (by kernel_rfl) (fun _ _ _ h => h) (Or.inl ⟨by rfl, ?ya63⟩) hHeld ?ra63
        case ya63 => intro w hSw; clear hSw; go_simp; with_reducible rfl
        simp only [Act.put, List.setIfInBounds_toArray, List.set_cons_zero, List.set_cons_succ]
        refine wpAnyH_take (i := 9) (v := ?va64) (by simp; rfl) (by kernel_rfl) (by kernel_rfl) (by kernel_rfl) (fun _ _ _ h => h) (Or.inl ⟨by rfl, ?ya64⟩) hHeld ?ra64
        case ya64 => intro w hSw; clear hSw; go_simp; with_reducible rfl
        simp only [Act.put, List.setIfInBounds_toArray, List.set_cons_zero, List.set_cons_succ]
        refine wpAnyH_take (i := 10) (v := ?va65) (by simp; rfl) (by kernel_rfl) (by kernel_rfl) (by kernel_rfl) (fun _ _ _ h => h) (Or.inl ⟨by rfl, ?ya65⟩) hHeld ?ra65
        case ya65 => intro w hSw; clear hSw; go_simp; with_reducible rfl
        simp only [Act.put, List.setIfInBounds_toArray, List.set_cons_zero, List.set_cons_succ]
        refine wpAnyH_ready (rs := [12]) (by kernel_rfl) (by simp) ?_
        refine AllReadyH.cons (by simp; rfl) (fun Kc hKc => ?_) AllReadyH.nil
        rw [if_pos (by rfl)]
        refine run_store_is 23 rfl rfl rfl (VAt.store HQv22.out (zs_len 32) HXL.out) ?_
        simp only [Act.put]
        have HBv23 : Hid (Below w2.heap.size w2 (v22.setRow v0.heap.size (U8 X.1).toArray)) := below_setRow HBv22.out HZb.out _
        have HQv23 : Hid (VAt (v22.setRow v0.heap.size (U8 X.1).toArray) v0.heap.size X.1) := LAt.stored HQv22.out _
        have HPv23 : Hid (VAt (v22.setRow v0.heap.size (U8 X.1).toArray) v1.heap.size X.1) := LAt.other HPv22.out _ (Nat.ne_of_lt HN.out)
        clear HBv22 HQv22 HPv22 HN hHeld
        generalize v22.setRow v0.heap.size (U8 X.1).toArray = v23 at *
        refine hKc.out _ _ (HS.out.later HBv23.out) (fun hHeld => ?_)
        clear hKc Kc
        refine wpAnyH_take (i := 13) (v := ?va66) (by simp; rfl) (by kernel_rfl) (by kernel_rfl) (by kernel_rfl) (fun _ _ _ h => h) (Or.inl ⟨by rfl, ?ya66⟩) hHeld ?ra66
        case ya66 => intro w hSw; clear hSw; go_simp; with_reducible rfl
        simp only [Act.put, List.setIfInBounds_toArray, List.set_cons_zero, List.set_cons_succ]
        clear hHeld
        refine wpAnyH_done (by kernel_rfl) (NoPanic.normal ?_) _
        have LP : Hid (_) := VAt.load HPv23.out HXL.out
        have LQ : Hid (_) := VAt.load HQv23.out HXL.out
        have QE : Hid ((binOp .eql 23 (.agg (U8 X.1).toArray) (.agg (U8 X.1).toArray)).run Tryd.prog v23 = .ok (.bool true) v23) := by
          have := eqlV v23 X.1 X.1 HXL.out HXL.out
          rw [decide_eq_true rfl] at this
          exact this
        go_wp2_with ((with_reducible refine at_ops ?_); (first | (refine wpList_load_is (by rfl) 23 rfl rfl LP.out ?_) | (refine wpList_load_is (by rfl) 23 rfl rfl LQ.out ?_) | (refine wpList_eql_is (by rfl) 23 rfl rfl rfl eqgV QE.out ?_)); simp only [Act.put, List.setIfInBounds_toArray, List.set_cons_zero, List.set_cons_succ])
        go_ret
        exact ⟨by simp, ⟨R, d, ws, m, HD.out.later HBv23.out, by omega, by omega, Nat.le_trans HBB.out (Nat.le_trans HB.out.size HBv23.out.size)⟩, (HB.out.mono HBB.out).trans (HBv23.out.mono (Nat.le_trans HBB.out HB.out.size))⟩
    · rw [if_pos (by rfl)]
      refine run_alloc_is 23 rfl (allocV u) ?_
      simp only [Act.put, List.setIfInBounds_toArray, List.set_cons_zero, List.set_cons_succ]
      have HBv1 : Hid (Below w2.heap.size w2 (u.alloc (.cells (U8 (zs 32)).toArray 23))) := below_then HBu.out (below_alloc _ _)
      have HQv1 : Hid (VAt (u.alloc (.cells (U8 (zs 32)).toArray 23)) u.heap.size (zs 32)) := LAt.new 23 _ _
      have HZa : Hid (w2.heap.size ≤ u.heap.size) := HBu.out.size
      clear HBu hHeld
      generalize u.alloc (.cells (U8 (zs 32)).toArray 23) = v1 at *
      refine hKc.out _ _ (HS.out.later HBv1.out) (fun hHeld => ?_)
      clear hKc Kc
      refine wpAnyH_ready (rs := [7]) (by kernel_rfl) (by simp) ?_
      refine AllReadyH.cons (by simp; rfl) (fun Kc hKc => ?_) AllReadyH.nil
      go_simp
      refine (hload_any o b (HD.out.later HBv1.out).dsk (HD.out.later HBv1.out).tab).mono ?_
      rintro e v2 ⟨rfl, bn⟩
      rw [← HX.out]
      have HBv2 : Hid (Below w2.heap.size w2 v2) := below_then HBv1.out bn
      have HQv2 : Hid (VAt v2 u.heap.size (zs 32)) := LAt.later HQv1.out bn
      clear bn HBv1 HQv1 hHeld
      refine hKc.out _ _ (HS.out.later HBv2.out) (fun hHeld => ?_)
      clear hKc Kc
      refine wpAnyH_take (i := 8) (v := ?va67) (by simp; rfl) (by kernel_rfl) (by kernel_rfl) (by kernel_rfl) (fun _ _ _ h => h) (Or.inl ⟨by rfl, ?ya67⟩) hHeld ?ra67
      case ya67 => intro w hSw; clear hSw; go_simp; with_reducible rfl
      simp only [Act.put, List.setIfInBounds_toArray, List.set_cons_zero, List.set_cons_succ]
      refine wpAnyH_take (i := 9) (v := ?va68) (by simp; rfl) (by kernel_rfl) (by kernel_rfl) (by kernel_rfl) (fun _ _ _ h => h) (Or.inl ⟨by rfl, ?ya68⟩) hHeld ?ra68
      case ya68 => intro w hSw; clear hSw; go_simp; with_reducible rfl
      simp only [Act.put, List.setIfInBounds_toArray, List.set_cons_zero, List.set_cons_succ]
      refine wpAnyH_take (i := 10) (v := ?va69) (by simp; rfl) (by kernel_rfl) (by kernel_rfl) (by kernel_rfl) (fun _ _ _ h => h) (Or.inl ⟨by rfl, ?ya69⟩) hHeld ?ra69
      case ya69 => intro w hSw; clear hSw; go_simp; with_reducible rfl
      simp only [Act.put, List.setIfInBounds_toArray, List.set_cons_zero, List.set_cons_succ]
      refine wpAnyH_ready (rs := [12]) (by kernel_rfl) (by simp) ?_
      refine AllReadyH.cons (by simp; rfl) (fun Kc hKc => ?_) AllReadyH.nil
      rw [if_pos (by rfl)]
      refine run_store_is 23 rfl rfl rfl (VAt.store HQv2.out (zs_len 32) HXL.out) ?_
      simp only [Act.put]
      have HBv3 : Hid (Below w2.heap.size w2 (v2.setRow u.heap.size (U8 X.1).toArray)) := below_setRow HBv2.out HZa.out _
      have HQv3 : Hid (VAt (v2.setRow u.heap.size (U8 X.1).toArray) u.heap.size X.1) := LAt.stored HQv2.out _
      clear HBv2 HQv2 hHeld
      generalize v2.setRow u.heap.size (U8 X.1).toArray = v3 at *
      refine hKc.out _ _ (HS.out.later HBv3.out) (fun hHeld => ?_)
      clear hKc Kc
      refine wpAnyH_take (i := 13) (v := ?va70) (by simp; rfl) (by kernel_rfl) (by kernel_rfl) (by kernel_rfl) (fun _ _ _ h => h) (Or.inl ⟨by rfl, ?ya70⟩) hHeld ?ra70
      case ya70 => intro w hSw; clear hSw; go_simp; with_reducible rfl
      simp only [Act.put, List.setIfInBounds_toArray, List.set_cons_zero, List.set_cons_succ]
      clear hHeld
      refine wpAnyH_done (by kernel_rfl) (NoPanic.normal ?_) _
      go_wp2_with fail
      refine wp_region_noPanic ?_
      refine wp_region_held_drew (S := (fun w' => See w' g p r s vt vw w.heap.size (ocells 2 b v raw keep o true) (w.heap.size + 1) o)) (by kernel_rfl) (HS.out.later (below_then HBv3.out (below_drawn 1))) (fun hHeld => ?_)
      have HBv0 : Hid (Below w2.heap.size w2 v3.drew) := below_then HBv3.out (below_drawn 1)
      have HPv0 : Hid (VAt v3.drew u.heap.size X.1) := HQv3.out.drew
      clear HBv3 HQv3
      generalize v3.drew = v0 at *
      refine wpAnyH_take (i := 0) (v := ?va71) (by simp; rfl) (by kernel_rfl) (by kernel_rfl) (by kernel_rfl) (fun _ _ _ h => h) (Or.inl ⟨by rfl, ?ya71⟩) hHeld ?ra71
      case ya71 => intro w hSw; clear hSw; go_simp; with_reducible rfl
      simp only [Act.put, List.setIfInBounds_toArray, List.set_cons_zero, List.set_cons_succ]
      refine wpAnyH_take (i := 1) (v := ?va72) (by simp; rfl) (by kernel_rfl) (by kernel_rfl) (by kernel_rfl) (fun _ _ _ h => h) (Or.inl ⟨by rfl, ?ya72⟩) hHeld ?ra72
      case ya72 => intro w hSw; clear hSw; go_simp; with_reducible rfl
      simp only [Act.put, List.setIfInBounds_toArray, List.set_cons_zero, List.set_cons_succ]
      refine wpAnyH_take (i := 2) (v := ?va73) (by simp; rfl) (by kernel_rfl) (by kernel_rfl) (by kernel_rfl) (fun _ _ _ h => h) (Or.inl ⟨by rfl, ?ya73⟩) hHeld ?ra73
      case ya73 => intro w hSw; clear hSw; go_simp; with_reducible rfl
      simp only [Act.put, List.setIfInBounds_toArray, List.set_cons_zero, List.set_cons_succ]
      refine wpAnyH_take (i := 3) (v := ?va74) (by simp; rfl) (by kernel_rfl) (by kernel_rfl) (by kernel_rfl) (fun _ _ _ h => h) (Or.inl ⟨by rfl, ?ya74⟩) hHeld ?ra74
      case ya74 => intro w hSw; have z := KAt.c1 hSw.desk; clear hSw; go_simp; with_reducible rfl
      simp only [Act.put, List.setIfInBounds_toArray, List.set_cons_zero, List.set_cons_succ]
      refine wpAnyH_take (i := 4) (v := _) (by simp; rfl) (by kernel_rfl) (by kernel_rfl) (by kernel_rfl) (fun _ _ _ h => h) (yieldsIf_load_mid (by rfl) 39 (.tmp 5) rfl (w.heap.size + 1) 0 rfl (ccells o) _ (fun _ h => LAt.range h.cfg) Tryd.underlying39 rfl (by rw [size23, ccells_len])) hHeld ?_
      simp only [Act.put, List.setIfInBounds_toArray, List.set_cons_zero, List.set_cons_succ]
      refine wpAnyH_take (i := 5) (v := ?va75) (by simp; rfl) (by kernel_rfl) (by kernel_rfl) (by kernel_rfl) (fun _ _ _ h => h) (Or.inl ⟨by rfl, ?ya75⟩) hHeld ?ra75
      case ya75 => intro w hSw; clear hSw; go_simp; with_reducible rfl
      simp only [Act.put, List.setIfInBounds_toArray, List.set_cons_zero, List.set_cons_succ]
      refine wpAnyH_take (i := 6) (v := ?va76) (by simp; rfl) (by kernel_rfl) (by kernel_rfl) (by kernel_rfl) (fun _ _ _ h => h) (Or.inl ⟨by rfl, ?ya76⟩) hHeld ?ra76
      case ya76 => intro w hSw; have z := OAt.block hSw.op; clear hSw; go_simp; with_reducible rfl
      simp only [Act.put, List.setIfInBounds_toArray, List.set_cons_zero, List.set_cons_succ]
      refine wpAnyH_ready (rs := [7, 11]) (by kernel_rfl) (by simp) ?_
      refine AllReadyH.cons (by simp; rfl) (fun Kc hKc => ?_) (AllReadyH.cons (by simp; rfl) (fun Kc hKc => ?_) AllReadyH.nil)
      · go_simp
        refine (rload8_any o b (HD.out.later HBv0.out).ref (by omega)).mono ?_
        rintro e v21 ⟨rfl, bn⟩
        rw [← HX.out]
        have HBv21 : Hid (Below w2.heap.size w2 v21) := below_then HBv0.out bn
        have HPv21 : Hid (VAt v21 u.heap.size X.1) := LAt.later HPv0.out bn
        clear bn HBv0 HPv0 hHeld
        refine hKc.out _ _ (HS.out.later HBv21.out) (fun hHeld => ?_)
        clear hKc Kc
        refine wpAnyH_take (i := 8) (v := ?va77) (by simp; rfl) (by kernel_rfl) (by kernel_rfl) (by kernel_rfl) (fun _ _ _ h => h) (Or.inl ⟨by rfl, ?ya77⟩) hHeld ?ra77
        case ya77 => intro w hSw; clear hSw; go_simp; with_reducible rfl
        simp only [Act.put, List.setIfInBounds_toArray, List.set_cons_zero, List.set_cons_succ]
        refine wpAnyH_take (i := 9) (v := ?va78) (by simp; rfl) (by kernel_rfl) (by kernel_rfl) (by kernel_rfl) (fun _ _ _ h => h) (Or.inl ⟨by rfl, ?ya78⟩) hHeld ?ra78
        case ya78 => intro w hSw; clear hSw; go_simp; with_reducible rfl
        simp only [Act.put, List.setIfInBounds_toArray, List.set_cons_zero, List.set_cons_succ]
        refine wpAnyH_take (i := 10) (v := ?va79) (by simp; rfl) (by kernel_rfl) (by kernel_rfl) (by kernel_rfl) (fun _ _ _ h => h) (Or.inl ⟨by rfl, ?ya79⟩) hHeld ?ra79
        case ya79 => intro w hSw; clear hSw; go_simp; with_reducible rfl
        simp only [Act.put, List.setIfInBounds_toArray, List.set_cons_zero, List.set_cons_succ]
        refine wpAnyH_ready (rs := [11]) (by kernel_rfl) (by simp) ?_
        refine AllReadyH.cons (by simp; rfl) (fun Kc hKc => ?_) AllReadyH.nil
        rw [if_pos (by rfl)]
        refine run_alloc_is 23 rfl (allocV v21) ?_
        simp only [Act.put, List.setIfInBounds_toArray, List.set_cons_zero, List.set_cons_succ]
        have HBv22 : Hid (Below w2.heap.size w2 (v21.alloc (.cells (U8 (zs 32)).toArray 23))) := below_then HBv21.out (below_alloc _ _)
        have HQv22 : Hid (VAt (v21.alloc (.cells (U8 (zs 32)).toArray 23)) v21.heap.size (zs 32)) := LAt.new 23 _ _
        have HZb : Hid (w2.heap.size ≤ v21.heap.size) := HBv21.out.size
        have HPv22 : Hid (VAt (v21.alloc (.cells (U8 (zs 32)).toArray 23)) u.heap.size X.1) := LAt.later HPv21.out (below_alloc _ _)
        have HN : Hid (u.heap.size < v21.heap.size) := LAt.lt HPv21.out
        clear HBv21 HPv21 hHeld
        generalize v21.alloc (.cells (U8 (zs 32)).toArray 23) = v22 at *
        refine hKc.out _ _ (HS.out.later HBv22.out) (fun hHeld => ?_)
        clear hKc Kc
        refine wpAnyH_ready (rs := [12]) (by kernel_rfl) (by simp) ?_
        refine AllReadyH.cons (by simp; rfl) (fun Kc hKc => ?_) AllReadyH.nil
        rw [if_pos (by rfl)]
        refine run_store_is 23 rfl rfl rfl (VAt.store HQv22.out (zs_len 32) HXL.out) ?_
        simp only [Act.put]
        have HBv23 : Hid (Below w2.heap.size w2 (v22.setRow v21.heap.size (U8 X.1).toArray)) := below_setRow HBv22.out HZb.out _
        have HQv23 : Hid (VAt (v22.setRow v21.heap.size (U8 X.1).toArray) v21.heap.size X.1) := LAt.stored HQv22.out _
        have HPv23 : Hid (VAt (v22.setRow v21.heap.size (U8 X.1).toArray) u.heap.size X.1) := LAt.other HPv22.out _ (Nat.ne_of_lt HN.out)
        clear HBv22 HQv22 HPv22 HN hHeld
        generalize v22.setRow v21.heap.size (U8 X.1).toArray = v23 at *
        refine hKc.out _ _ (HS.out.later HBv23.out) (fun hHeld => ?_)
        clear hKc Kc
        refine wpAnyH_take (i := 13) (v := ?va80) (by simp; rfl) (by kernel_rfl) (by kernel_rfl) (by kernel_rfl) (fun _ _ _ h => h) (Or.inl ⟨by rfl, ?ya80⟩) hHeld ?ra80
        case ya80 => intro w hSw; clear hSw; go_simp; with_reducible rfl
        simp only [Act.put, List.setIfInBounds_toArray, List.set_cons_zero, List.set_cons_succ]
        clear hHeld
        refine wpAnyH_done (by kernel_rfl) (NoPanic.normal ?_) _
        have LP : Hid (_) := VAt.load HPv23.out HXL.out
        have LQ : Hid (_) := VAt.load HQv23.out HXL.out
        have QE : Hid ((binOp .eql 23 (.agg (U8 X.1).toArray) (.agg (U8 X.1).toArray)).run Tryd.prog v23 = .ok (.bool true) v23) := by
          have := eqlV v23 X.1 X.1 HXL.out HXL.out
          rw [decide_eq_true rfl] at this
          exact this
        go_wp2_with ((with_reducible refine at_ops ?_); (first | (refine wpList_load_is (by rfl) 23 rfl rfl LP.out ?_) | (refine wpList_load_is (by rfl) 23 rfl rfl LQ.out ?_) | (refine wpList_eql_is (by rfl) 23 rfl rfl rfl eqgV QE.out ?_)); simp only [Act.put, List.setIfInBounds_toArray, List.set_cons_zero, List.set_cons_succ])
        go_ret
        exact ⟨by simp, ⟨R, d, ws, m, HD.out.later HBv23.out, by omega, by omega, Nat.le_trans HBB.out (Nat.le_trans HB.out.size HBv23.out.size)⟩, (HB.out.mono HBB.out).trans (HBv23.out.mono (Nat.le_trans HBB.out HB.out.size))⟩
      · rw [if_pos (by rfl)]
        refine run_alloc_is 23 rfl (allocV v0) ?_
        simp only [Act.put, List.setIfInBounds_toArray, List.set_cons_zero, List.set_cons_succ]
        have HBv21 : Hid (Below w2.heap.size w2 (v0.alloc (.cells (U8 (zs 32)).toArray 23))) := below_then HBv0.out (below_alloc _ _)
        have HQv21 : Hid (VAt (v0.alloc (.cells (U8 (zs 32)).toArray 23)) v0.heap.size (zs 32)) := LAt.new 23 _ _
        have HZb : Hid (w2.heap.size ≤ v0.heap.size) := HBv0.out.size
        have HPv21 : Hid (VAt (v0.alloc (.cells (U8 (zs 32)).toArray 23)) u.heap.size X.1) := LAt.later HPv0.out (below_alloc _ _)
        have HN : Hid (u.heap.size < v0.heap.size) := LAt.lt HPv0.out
        clear HBv0 HPv0 hHeld
        generalize v0.alloc (.cells (U8 (zs 32)).toArray 23) = v21 at *
        refine hKc.out _ _ (HS.out.later HBv21.out) (fun hHeld => ?_)
        clear hKc Kc
        refine wpAnyH_ready (rs := [7]) (by kernel_rfl) (by simp) ?_
        refine AllReadyH.cons (by simp; rfl) (fun Kc hKc => ?_) AllReadyH.nil
        go_simp
        refine (rload8_any o b (HD.out.later HBv21.out).ref (by omega)).mono ?_
        rintro e v22 ⟨rfl, bn⟩
        rw [← HX.out]
        have HBv22 : Hid (Below w2.heap.size w2 v22) := below_then HBv21.out bn
        have HQv22 : Hid (VAt v22 v0.heap.size (zs 32)) := LAt.later HQv21.out bn
        have HPv22 : Hid (VAt v22 u.heap.size X.1) := LAt.later HPv21.out bn
        clear bn HBv21 HQv21 HPv21 hHeld
        refine hKc.out _ _ (HS.out.later HBv22.out) (fun hHeld => ?_)
        clear hKc Kc
        refine wpAnyH_take (i := 8) (v := ?va81) (by simp; rfl) (by kernel_rfl) (by kernel_rfl) (by kernel_rfl) (fun _ _ _ h => h) (Or.inl ⟨by rfl, ?ya81⟩) hHeld ?ra81
        case ya81 => intro w hSw; clear hSw; go_simp; with_reducible rfl
        simp only [Act.put, List.setIfInBounds_toArray, List.set_cons_zero, List.set_cons_succ]
        refine wpAnyH_take (i := 9) (v := ?va82) (by simp; rfl) (by kernel_rfl) (by kernel_rfl) (by kernel_rfl) (fun _ _ _ h => h) (Or.inl ⟨by rfl, ?ya82⟩) hHeld ?ra82
        case ya82 => intro w hSw; clear hSw; go_simp; with_reducible rfl
        simp only [Act.put, List.setIfInBounds_toArray, List.set_cons_zero, List.set_cons_succ]
        refine wpAnyH_take (i := 10) (v := ?va83) (by simp; rfl) (by kernel_rfl) (by kernel_rfl) (by kernel_rfl) (fun _ _ _ h => h) (Or.inl ⟨by rfl, ?ya83⟩) hHeld ?ra83
        case ya83 => intro w hSw; clear hSw; go_simp; with_reducible rfl
        simp only [Act.put, List.setIfInBounds_toArray, List.set_cons_zero, List.set_cons_succ]
        refine wpAnyH_ready (rs := [12]) (by kernel_rfl) (by simp) ?_
        refine AllReadyH.cons (by simp; rfl) (fun Kc hKc => ?_) AllReadyH.nil
        rw [if_pos (by rfl)]
        refine run_store_is 23 rfl rfl rfl (VAt.store HQv22.out (zs_len 32) HXL.out) ?_
        simp only [Act.put]
        have HBv23 : Hid (Below w2.heap.size w2 (v22.setRow v0.heap.size (U8 X.1).toArray)) := below_setRow HBv22.out HZb.out _
        have HQv23 : Hid (VAt (v22.setRow v0.heap.size (U8 X.1).toArray) v0.heap.size X.1) := LAt.stored HQv22.out _
        have HPv23 : Hid (VAt (v22.setRow v0.heap.size (U8 X.1).toArray) u.heap.size X.1) := LAt.other HPv22.out _ (Nat.ne_of_lt HN.out)
        clear HBv22 HQv22 HPv22 HN hHeld
        generalize v22.setRow v0.heap.size (U8 X.1).toArray = v23 at *
        refine hKc.out _ _ (HS.out.later HBv23.out) (fun hHeld => ?_)
        clear hKc Kc
        refine wpAnyH_take (i := 13) (v := ?va84) (by simp; rfl) (by kernel_rfl) (by kernel_rfl) (by kernel_rfl) (fun _ _ _ h => h) (Or.inl ⟨by rfl, ?ya84⟩) hHeld ?ra84
        case ya84 => intro w hSw; clear hSw; go_simp; with_reducible rfl
        simp only [Act.put, List.setIfInBounds_toArray, List.set_cons_zero, List.set_cons_succ]
        clear hHeld
        refine wpAnyH_done (by kernel_rfl) (NoPanic.normal ?_) _
        have LP : Hid (_) := VAt.load HPv23.out HXL.out
        have LQ : Hid (_) := VAt.load HQv23.out HXL.out
        have QE : Hid ((binOp .eql 23 (.agg (U8 X.1).toArray) (.agg (U8 X.1).toArray)).run Tryd.prog v23 = .ok (.bool true) v23) := by
          have := eqlV v23 X.1 X.1 HXL.out HXL.out
          rw [decide_eq_true rfl] at this
          exact this
        go_wp2_with ((with_reducible refine at_ops ?_); (first | (refine wpList_load_is (by rfl) 23 rfl rfl LP.out ?_) | (refine wpList_load_is (by rfl) 23 rfl rfl LQ.out ?_) | (refine wpList_eql_is (by rfl) 23 rfl rfl rfl eqgV QE.out ?_)); simp only [Act.put, List.setIfInBounds_toArray, List.set_cons_zero, List.set_cons_succ])
        go_ret
        exact ⟨by simp, ⟨R, d, ws, m, HD.out.later HBv23.out, by omega, by omega, Nat.le_trans HBB.out (Nat.le_trans HB.out.size HBv23.out.size)⟩, (HB.out.mono HBB.out).trans (HBv23.out.mono (Nat.le_trans HBB.out HB.out.size))⟩
end Go.Proofs.YtpenddnmmfpdjaaDoor
