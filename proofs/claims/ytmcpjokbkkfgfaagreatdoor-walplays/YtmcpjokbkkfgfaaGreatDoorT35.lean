/-
  Layer 9: plays: Read.
-/
import Derived.Test.YtmcpjokbkkfgfaaGreatDoorT30
import Derived.Test.YtmcpjokbkkfgfaaGreatDoorT14
import Derived.Test.YtmcpjokbkkfgfaaGreatDoorT27
import Derived.Test.YtmcpjokbkkfgfaaGreatDoorT15
import Derived.Test.YtmcpjokbkkfgfaaGreatDoorT25
namespace Go.Proofs.YtmcpjokbkkfgfaaGreatDoor
open Go.RowKit


theorem run_alloc_is {P : Program} {o : Oper} {a : Act} {w w' : World} {K : Act → World → Prop} {Q : Exit → Act → World → Prop} (ty : TypeId) (ho : o.op = .alloc ty) {v : Value} (hrun : (Instr.alloc ty true (.tuple #[])).run P w = .ok v w') (h : K (a.put o.dst v) w') : o.wp P a w K Q := by
  have e : (execOp a.eval o).run P w = .ok (.value v) w' := by unfold execOp; simp only [ho, Sem.run_bind, hrun, Result.andThen_ok, Sem.run_pure]
  unfold Oper.wp; rw [e]; exact h
theorem run_store_is {P : Program} {o : Oper} {a : Act} {w w' : World} {K : Act → World → Prop} {Q : Exit → Act → World → Prop} (ty : TypeId) {x y : Operand} (ho : o.op = .store ty x y) {p v : Value} (hx : a.eval x = p) (hy : a.eval y = v) (hrun : (Instr.storeAt ty p v).run P w = .ok () w') (h : K (a.put o.dst undef) w') : o.wp P a w K Q := by
  have e : (execOp a.eval o).run P w = .ok .skip w' := by unfold execOp; simp only [ho, hx, hy, Sem.run_bind, hrun, Result.andThen_ok, Sem.run_pure]
  unfold Oper.wp; rw [e]; exact h


set_option maxHeartbeats 8000000 in
set_option maxRecDepth 100000 in
theorem plays_read {w : World} {B P k : Nat} (h : Sq w B P 2 k) (hk : k ≤ 100) (wh b : Int) (v : List Int) (hv : v.length = 32) (pos : Int) (hp0 : 0 ≤ pos) (keep data : Value) :
    Calls Tryz.prog 9 #[.pointer (some ⟨P, 0, none⟩), .agg (ocells 6 wh b v pos keep data).toArray] w fun r w' => r = .returned (.bool true) ∧ Sq w' B P 2 (k + 1) ∧ Below B w w' := by
  have hB := h.B
  have t2 := tmod2 wh
  have e2 := sl2_is wh
  have l2 := sl2_lt wh
  obtain ⟨w0, hw0⟩ : ∃ x, x = w.alloc (.cells (ocells 6 wh b v pos keep data).toArray 53) := ⟨_, rfl⟩
  have ew := hw0.symm
  have b0 : Below w.heap.size w w0 := by rw [hw0]; exact below_alloc w _
  have O0 : OAt w0 w.heap.size 6 wh b v pos keep data := by rw [hw0]; exact LAt.new 53 w _
  have HQ0 : Hid (Sq w0 B P 2 k) := h.later b0
  have HB0 : Hid (Below w.heap.size w w0) := b0
  have HO0 : Hid (OAt w0 w.heap.size 6 wh b v pos keep data) := O0
  have HV : Hid (v.length = 32) := hv
  have ckd := OAt.kind O0
  have cwh := OAt.which O0
  clear hw0 b0 O0 h hv
  go_enter Tryz.func9, Tryz.ntmps9
  go_wp2_with fail
  rw [e2]
  clear ew ckd cwh t2 e2
  generalize sl2 wh = i at *
  obtain ⟨⟨R', L, x, K, y, e, bo, hW, hl, -⟩, ht, hb1⟩ := HQ0.out
  have i0 : (0 : Int) ≤ (i : Int) := by omega
  have i2 : (i : Int) < 2 := by omega
  have c0 := hW.cl i l2
  have c2 := hW.cr i l2
  have M1 : Hid (P < w0.heap.size) := hW.blk.lt
  have HLS : Hid (LD w0 (fun k => R' k = 1 + i) (L i) (x i) (e i).d (e i).ws (e i).g) := hW.ls i l2
  have HRS : Hid (RL w0 (fun k => R' k = 3 + i) (K i) (y i) (e i).d (e i).ws (e i).g (bo i)) := hW.rs i l2
  have HT0 : Hid (Tab w0) := ht
  have hle : (e i).ws.length ≤ 100000 := by have := hl i l2; omega
  have HNb : Hid (∀ j, Bytes (newest (e i).ws (e i).d j)) := fun j => by
    obtain ⟨q, cap, u, hp⟩ := (hW.ls i l2).dsk
    exact newk_bytes hp.db hp.fit _
  obtain ⟨X, hX⟩ : ∃ X, X = rdS (e i).g (newest (e i).ws (e i).d) pos := ⟨_, rfl⟩
  have HX : Hid (X = rdS (e i).g (newest (e i).ws (e i).d) pos) := hX
  have HXL : Hid (X.1.val.length = 32) := by rw [hX]; exact rdS_len HNb.out pos
  clear hX hW hl ht hb1
  refine wp_region_noPanic ?_
  refine wp_region_held_drew (S := fun w' => Below w0.heap.size w0 w') (by kernel_rfl) (below_drawn 1) (fun hHeld => ?_)
  have HBu : Hid (Below w0.heap.size w0 w0.drew) := below_drawn 1
  generalize w0.drew = u at *
  refine wpAnyH_take (i := 0) (v := ?va1) (by simp; rfl) (by kernel_rfl) (by kernel_rfl) (by kernel_rfl) (fun _ _ _ h => h) (Or.inl ⟨by rfl, ?ya1⟩) hHeld ?ra1
  case ya1 => intro w hSw; clear hSw; go_simp; with_reducible rfl
  simp only [Act.put, List.setIfInBounds_toArray, List.set_cons_zero, List.set_cons_succ]
  refine wpAnyH_take (i := 1) (v := ?va2) (by simp; rfl) (by kernel_rfl) (by kernel_rfl) (by kernel_rfl) (fun _ _ _ h => h) (Or.inl ⟨by rfl, ?ya2⟩) hHeld ?ra2
  case ya2 => intro w hSw; clear hSw; go_simp; with_reducible rfl
  simp only [Act.put, List.setIfInBounds_toArray, List.set_cons_zero, List.set_cons_succ]
  refine wpAnyH_take (i := 2) (v := ?va3) (by simp; rfl) (by kernel_rfl) (by kernel_rfl) (by kernel_rfl) (fun _ _ _ h => h) (Or.inl ⟨by rfl, ?ya3⟩) hHeld ?ra3
  case ya3 => intro w hSw; clear hSw; go_simp; with_reducible rfl
  simp only [Act.put, List.setIfInBounds_toArray, List.set_cons_zero, List.set_cons_succ]
  refine wpAnyH_take (i := 3) (v := ?va4) (by simp; rfl) (by kernel_rfl) (by kernel_rfl) (by kernel_rfl) (fun _ _ _ h => h) (Or.inl ⟨by rfl, ?ya4⟩) hHeld ?ra4
  case ya4 => intro w hSw; clear hSw; go_simp; with_reducible rfl
  simp only [Act.put, List.setIfInBounds_toArray, List.set_cons_zero, List.set_cons_succ]
  refine wpAnyH_take (i := 4) (v := ?va5) (by simp; rfl) (by kernel_rfl) (by kernel_rfl) (by kernel_rfl) (fun _ _ _ h => h) (Or.inl ⟨by rfl, ?ya5⟩) hHeld ?ra5
  case ya5 => intro w hSw; clear hSw; go_simp; with_reducible rfl
  simp only [Act.put, List.setIfInBounds_toArray, List.set_cons_zero, List.set_cons_succ]
  refine wpAnyH_take (i := 5) (v := ?va6) (by simp; rfl) (by kernel_rfl) (by kernel_rfl) (by kernel_rfl) (fun _ _ _ h => h) (Or.inl ⟨by rfl, ?ya6⟩) hHeld ?ra6
  case ya6 => intro w hSw; have z := (hSw.cell (p := ⟨P, i, none⟩) M1.out).trans c0; clear hSw; go_simp; with_reducible rfl
  simp only [Act.put, List.setIfInBounds_toArray, List.set_cons_zero, List.set_cons_succ]
  refine wpAnyH_take (i := 6) (v := ?va7) (by simp; rfl) (by kernel_rfl) (by kernel_rfl) (by kernel_rfl) (fun _ _ _ h => h) (Or.inl ⟨by rfl, ?ya7⟩) hHeld ?ra7
  case ya7 => intro w hSw; clear hSw; go_simp; with_reducible rfl
  simp only [Act.put, List.setIfInBounds_toArray, List.set_cons_zero, List.set_cons_succ]
  refine wpAnyH_take (i := 7) (v := ?va8) (by simp; rfl) (by kernel_rfl) (by kernel_rfl) (by kernel_rfl) (fun _ _ _ h => h) (Or.inl ⟨by rfl, ?ya8⟩) hHeld ?ra8
  case ya8 => intro w hSw; have z := OAt.pos (LAt.later HO0.out hSw) HV.out; clear hSw; go_simp; with_reducible rfl
  simp only [Act.put, List.setIfInBounds_toArray, List.set_cons_zero, List.set_cons_succ]
  refine wpAnyH_ready (rs := [8, 12]) (by kernel_rfl) (by simp) ?_
  refine AllReadyH.cons (by simp; rfl) (fun Kc hKc => ?_) (AllReadyH.cons (by simp; rfl) (fun Kc hKc => ?_) AllReadyH.nil)
  · go_simp
    refine (wread_at (LD.later HLS.out HBu.out) (HT0.out.later HBu.out) pos hp0).mono ?_
    rintro r1 v1 ⟨rfl, bn⟩
    rw [← HX.out]
    have HBv1 : Hid (Below w0.heap.size w0 v1) := below_then HBu.out bn
    clear bn HBu hHeld
    refine hKc.out _ _ HBv1.out (fun hHeld => ?_)
    clear hKc Kc
    refine wpAnyH_take (i := 9) (v := ?va9) (by simp; rfl) (by kernel_rfl) (by kernel_rfl) (by kernel_rfl) (fun _ _ _ h => h) (Or.inl ⟨by rfl, ?ya9⟩) hHeld ?ra9
    case ya9 => intro w hSw; clear hSw; go_simp; with_reducible rfl
    simp only [Act.put, List.setIfInBounds_toArray, List.set_cons_zero, List.set_cons_succ]
    refine wpAnyH_take (i := 10) (v := ?va10) (by simp; rfl) (by kernel_rfl) (by kernel_rfl) (by kernel_rfl) (fun _ _ _ h => h) (Or.inl ⟨by rfl, ?ya10⟩) hHeld ?ra10
    case ya10 => intro w hSw; clear hSw; go_simp; with_reducible rfl
    simp only [Act.put, List.setIfInBounds_toArray, List.set_cons_zero, List.set_cons_succ]
    refine wpAnyH_take (i := 11) (v := ?va11) (by simp; rfl) (by kernel_rfl) (by kernel_rfl) (by kernel_rfl) (fun _ _ _ h => h) (Or.inl ⟨by rfl, ?ya11⟩) hHeld ?ra11
    case ya11 => intro w hSw; clear hSw; go_simp; with_reducible rfl
    simp only [Act.put, List.setIfInBounds_toArray, List.set_cons_zero, List.set_cons_succ]
    refine wpAnyH_ready (rs := [12]) (by kernel_rfl) (by simp) ?_
    refine AllReadyH.cons (by simp; rfl) (fun Kc hKc => ?_) AllReadyH.nil
    rw [if_pos (by rfl)]
    refine run_alloc_is 62 rfl (R.alloc31 v1) ?_
    simp only [Act.put, List.setIfInBounds_toArray, List.set_cons_zero, List.set_cons_succ]
    have HBv2 : Hid (Below w0.heap.size w0 (v1.alloc (.cells (R.rcells R.rec0).toArray 62))) := below_then HBv1.out (below_alloc _ _)
    have HQv2 : Hid (R.RAt 62 (v1.alloc (.cells (R.rcells R.rec0).toArray 62)) v1.heap.size R.rec0) := R.RAt.new 62 _ _
    have HZa : Hid (w0.heap.size ≤ v1.heap.size) := HBv1.out.size
    clear HBv1 hHeld
    generalize v1.alloc (.cells (R.rcells R.rec0).toArray 62) = v2 at *
    refine hKc.out _ _ HBv2.out (fun hHeld => ?_)
    clear hKc Kc
    refine wpAnyH_ready (rs := [13]) (by kernel_rfl) (by simp) ?_
    refine AllReadyH.cons (by simp; rfl) (fun Kc hKc => ?_) AllReadyH.nil
    rw [if_pos (by rfl)]
    refine run_store_is 62 rfl rfl rfl (R.RAt.store R.size31 HQv2.out R.rec0_len HXL.out) ?_
    simp only [Act.put]
    have HBv3 : Hid (Below w0.heap.size w0 (v2.setRow v1.heap.size (R.rcells X.1).toArray)) := below_setRow HBv2.out HZa.out _
    have HQv3 : Hid (R.RAt 62 (v2.setRow v1.heap.size (R.rcells X.1).toArray) v1.heap.size X.1) := R.RAt.stored HQv2.out _
    clear HBv2 HQv2 hHeld
    generalize v2.setRow v1.heap.size (R.rcells X.1).toArray = v3 at *
    refine hKc.out _ _ HBv3.out (fun hHeld => ?_)
    clear hKc Kc
    refine wpAnyH_take (i := 14) (v := ?va12) (by simp; rfl) (by kernel_rfl) (by kernel_rfl) (by kernel_rfl) (fun _ _ _ h => h) (Or.inl ⟨by rfl, ?ya12⟩) hHeld ?ra12
    case ya12 => intro w hSw; clear hSw; go_simp; with_reducible rfl
    simp only [Act.put, List.setIfInBounds_toArray, List.set_cons_zero, List.set_cons_succ]
    clear hHeld
    refine wpAnyH_done (by kernel_rfl) (NoPanic.normal ?_) _
    go_wp2_with fail
    refine wp_region_noPanic ?_
    refine wp_region_held_drew (S := fun w' => Below w0.heap.size w0 w') (by kernel_rfl) (below_then HBv3.out (below_drawn 1)) (fun hHeld => ?_)
    have HBv0 : Hid (Below w0.heap.size w0 v3.drew) := below_then HBv3.out (below_drawn 1)
    have HPv0 : Hid (R.RAt 62 v3.drew v1.heap.size X.1) := HQv3.out
    clear HBv3 HQv3
    generalize v3.drew = v0 at *
    refine wpAnyH_take (i := 0) (v := ?va13) (by simp; rfl) (by kernel_rfl) (by kernel_rfl) (by kernel_rfl) (fun _ _ _ h => h) (Or.inl ⟨by rfl, ?ya13⟩) hHeld ?ra13
    case ya13 => intro w hSw; clear hSw; go_simp; with_reducible rfl
    simp only [Act.put, List.setIfInBounds_toArray, List.set_cons_zero, List.set_cons_succ]
    refine wpAnyH_take (i := 1) (v := ?va14) (by simp; rfl) (by kernel_rfl) (by kernel_rfl) (by kernel_rfl) (fun _ _ _ h => h) (Or.inl ⟨by rfl, ?ya14⟩) hHeld ?ra14
    case ya14 => intro w hSw; clear hSw; go_simp; with_reducible rfl
    simp only [Act.put, List.setIfInBounds_toArray, List.set_cons_zero, List.set_cons_succ]
    refine wpAnyH_take (i := 2) (v := ?va15) (by simp; rfl) (by kernel_rfl) (by kernel_rfl) (by kernel_rfl) (fun _ _ _ h => h) (Or.inl ⟨by rfl, ?ya15⟩) hHeld ?ra15
    case ya15 => intro w hSw; clear hSw; go_simp; with_reducible rfl
    simp only [Act.put, List.setIfInBounds_toArray, List.set_cons_zero, List.set_cons_succ]
    refine wpAnyH_take (i := 3) (v := ?va16) (by simp; rfl) (by kernel_rfl) (by kernel_rfl) (by kernel_rfl) (fun _ _ _ h => h) (Or.inl ⟨by rfl, ?ya16⟩) hHeld ?ra16
    case ya16 => intro w hSw; clear hSw; go_simp; with_reducible rfl
    simp only [Act.put, List.setIfInBounds_toArray, List.set_cons_zero, List.set_cons_succ]
    refine wpAnyH_take (i := 4) (v := ?va17) (by simp; rfl) (by kernel_rfl) (by kernel_rfl) (by kernel_rfl) (fun _ _ _ h => h) (Or.inl ⟨by rfl, ?ya17⟩) hHeld ?ra17
    case ya17 => intro w hSw; clear hSw; go_simp; with_reducible rfl
    simp only [Act.put, List.setIfInBounds_toArray, List.set_cons_zero, List.set_cons_succ]
    refine wpAnyH_take (i := 5) (v := ?va18) (by simp; rfl) (by kernel_rfl) (by kernel_rfl) (by kernel_rfl) (fun _ _ _ h => h) (Or.inl ⟨by rfl, ?ya18⟩) hHeld ?ra18
    case ya18 => intro w hSw; have z := (hSw.cell (p := ⟨P, 4 + i, none⟩) M1.out).trans c2; clear hSw; go_simp; with_reducible rfl
    simp only [Act.put, List.setIfInBounds_toArray, List.set_cons_zero, List.set_cons_succ]
    refine wpAnyH_take (i := 6) (v := ?va19) (by simp; rfl) (by kernel_rfl) (by kernel_rfl) (by kernel_rfl) (fun _ _ _ h => h) (Or.inl ⟨by rfl, ?ya19⟩) hHeld ?ra19
    case ya19 => intro w hSw; clear hSw; go_simp; with_reducible rfl
    simp only [Act.put, List.setIfInBounds_toArray, List.set_cons_zero, List.set_cons_succ]
    refine wpAnyH_take (i := 7) (v := ?va20) (by simp; rfl) (by kernel_rfl) (by kernel_rfl) (by kernel_rfl) (fun _ _ _ h => h) (Or.inl ⟨by rfl, ?ya20⟩) hHeld ?ra20
    case ya20 => intro w hSw; have z := OAt.pos (LAt.later HO0.out hSw) HV.out; clear hSw; go_simp; with_reducible rfl
    simp only [Act.put, List.setIfInBounds_toArray, List.set_cons_zero, List.set_cons_succ]
    refine wpAnyH_ready (rs := [8, 12]) (by kernel_rfl) (by simp) ?_
    refine AllReadyH.cons (by simp; rfl) (fun Kc hKc => ?_) (AllReadyH.cons (by simp; rfl) (fun Kc hKc => ?_) AllReadyH.nil)
    · go_simp
      refine (rlread_at (RL.later HRS.out HBv0.out) hle HNb.out pos hp0).mono ?_
      rintro r1 v21 ⟨rfl, bn⟩
      rw [← HX.out]
      have HBv21 : Hid (Below w0.heap.size w0 v21) := below_then HBv0.out bn
      have HPv21 : Hid (R.RAt 62 v21 v1.heap.size X.1) := R.RAt.later HPv0.out bn
      clear bn HBv0 HPv0 hHeld
      refine hKc.out _ _ HBv21.out (fun hHeld => ?_)
      clear hKc Kc
      refine wpAnyH_take (i := 9) (v := ?va21) (by simp; rfl) (by kernel_rfl) (by kernel_rfl) (by kernel_rfl) (fun _ _ _ h => h) (Or.inl ⟨by rfl, ?ya21⟩) hHeld ?ra21
      case ya21 => intro w hSw; clear hSw; go_simp; with_reducible rfl
      simp only [Act.put, List.setIfInBounds_toArray, List.set_cons_zero, List.set_cons_succ]
      refine wpAnyH_take (i := 10) (v := ?va22) (by simp; rfl) (by kernel_rfl) (by kernel_rfl) (by kernel_rfl) (fun _ _ _ h => h) (Or.inl ⟨by rfl, ?ya22⟩) hHeld ?ra22
      case ya22 => intro w hSw; clear hSw; go_simp; with_reducible rfl
      simp only [Act.put, List.setIfInBounds_toArray, List.set_cons_zero, List.set_cons_succ]
      refine wpAnyH_take (i := 11) (v := ?va23) (by simp; rfl) (by kernel_rfl) (by kernel_rfl) (by kernel_rfl) (fun _ _ _ h => h) (Or.inl ⟨by rfl, ?ya23⟩) hHeld ?ra23
      case ya23 => intro w hSw; clear hSw; go_simp; with_reducible rfl
      simp only [Act.put, List.setIfInBounds_toArray, List.set_cons_zero, List.set_cons_succ]
      refine wpAnyH_ready (rs := [12]) (by kernel_rfl) (by simp) ?_
      refine AllReadyH.cons (by simp; rfl) (fun Kc hKc => ?_) AllReadyH.nil
      rw [if_pos (by rfl)]
      refine run_alloc_is 87 rfl (R.alloc37 v21) ?_
      simp only [Act.put, List.setIfInBounds_toArray, List.set_cons_zero, List.set_cons_succ]
      have HBv22 : Hid (Below w0.heap.size w0 (v21.alloc (.cells (R.rcells R.rec0).toArray 87))) := below_then HBv21.out (below_alloc _ _)
      have HQv22 : Hid (R.RAt 87 (v21.alloc (.cells (R.rcells R.rec0).toArray 87)) v21.heap.size R.rec0) := R.RAt.new 87 _ _
      have HZb : Hid (w0.heap.size ≤ v21.heap.size) := HBv21.out.size
      have HPv22 : Hid (R.RAt 62 (v21.alloc (.cells (R.rcells R.rec0).toArray 87)) v1.heap.size X.1) := R.RAt.later HPv21.out (below_alloc _ _)
      have HN : Hid (v1.heap.size < v21.heap.size) := R.RAt.lt HPv21.out
      clear HBv21 HPv21 hHeld
      generalize v21.alloc (.cells (R.rcells R.rec0).toArray 87) = v22 at *
      refine hKc.out _ _ HBv22.out (fun hHeld => ?_)
      clear hKc Kc
      refine wpAnyH_ready (rs := [13]) (by kernel_rfl) (by simp) ?_
      refine AllReadyH.cons (by simp; rfl) (fun Kc hKc => ?_) AllReadyH.nil
      rw [if_pos (by rfl)]
      refine run_store_is 87 rfl rfl rfl (R.RAt.store R.size37 HQv22.out R.rec0_len HXL.out) ?_
      simp only [Act.put]
      have HBv23 : Hid (Below w0.heap.size w0 (v22.setRow v21.heap.size (R.rcells X.1).toArray)) := below_setRow HBv22.out HZb.out _
      have HQv23 : Hid (R.RAt 87 (v22.setRow v21.heap.size (R.rcells X.1).toArray) v21.heap.size X.1) := R.RAt.stored HQv22.out _
      have HPv23 : Hid (R.RAt 62 (v22.setRow v21.heap.size (R.rcells X.1).toArray) v1.heap.size X.1) := R.RAt.other HPv22.out _ (Nat.ne_of_lt HN.out)
      clear HBv22 HQv22 HPv22 HN hHeld
      generalize v22.setRow v21.heap.size (R.rcells X.1).toArray = v23 at *
      refine hKc.out _ _ HBv23.out (fun hHeld => ?_)
      clear hKc Kc
      refine wpAnyH_take (i := 14) (v := ?va24) (by simp; rfl) (by kernel_rfl) (by kernel_rfl) (by kernel_rfl) (fun _ _ _ h => h) (Or.inl ⟨by rfl, ?ya24⟩) hHeld ?ra24
      case ya24 => intro w hSw; clear hSw; go_simp; with_reducible rfl
      simp only [Act.put, List.setIfInBounds_toArray, List.set_cons_zero, List.set_cons_succ]
      clear hHeld
      refine wpAnyH_done (by kernel_rfl) (NoPanic.normal ?_) _
      have QE : Hid (∀ w, (binOp .eql 87 (.agg (R.rcells X.1).toArray) (.agg (R.rcells X.1).toArray)).run Tryz.prog w = .ok (.bool true) w) := fun w => by rw [R.eql37 w _ _ HXL.out HXL.out, R.recB_same]
      go_wp2_with fail
      refine wp_region_noPanic ?_
      refine wp_region_held_drew (S := fun w' => Below v23.heap.size v23 w') (by kernel_rfl) (below_drawn 1) (fun hHeld => ?_)
      have Dp : Hid (Below v23.heap.size v23 v23.drew) := hHeld
      generalize v23.drew = wp at *
      refine wpAnyH_take (i := 0) (v := ?va25) (by simp; rfl) (by kernel_rfl) (by kernel_rfl) (by kernel_rfl) (fun _ _ _ h => h) (Or.inl ⟨by rfl, ?ya25⟩) hHeld ?ra25
      case ya25 => intro w hSw; clear hSw; go_simp; with_reducible rfl
      simp only [Act.put, List.setIfInBounds_toArray, List.set_cons_zero, List.set_cons_succ]
      refine wpAnyH_take (i := 1) (v := ?va26) (by simp; rfl) (by kernel_rfl) (by kernel_rfl) (by kernel_rfl) (fun _ _ _ h => h) (Or.inl ⟨by rfl, ?ya26⟩) hHeld ?ra26
      case ya26 => intro w hSw; clear hSw; go_simp; with_reducible rfl
      simp only [Act.put, List.setIfInBounds_toArray, List.set_cons_zero, List.set_cons_succ]
      refine wpAnyH_take (i := 2) (v := ?va27) (by simp; rfl) (by kernel_rfl) (by kernel_rfl) (by kernel_rfl) (fun _ _ _ h => h) (Or.inl ⟨by rfl, ?ya27⟩) hHeld ?ra27
      case ya27 => intro w hSw; clear hSw; go_simp; with_reducible rfl
      simp only [Act.put, List.setIfInBounds_toArray, List.set_cons_zero, List.set_cons_succ]
      refine wpAnyH_take (i := 3) (v := ?va28) (by simp; rfl) (by kernel_rfl) (by kernel_rfl) (by kernel_rfl) (fun _ _ _ h => h) (Or.inl ⟨by rfl, ?ya28⟩) hHeld ?ra28
      case ya28 => intro w hSw; clear hSw; go_simp; with_reducible rfl
      simp only [Act.put, List.setIfInBounds_toArray, List.set_cons_zero, List.set_cons_succ]
      refine wpAnyH_take (i := 4) (v := _) (by simp; rfl) (by kernel_rfl) (by kernel_rfl) (by kernel_rfl) (fun _ _ _ h => h) (yieldsIf_load_mid (by rfl) 62 (.tmp 7) rfl v1.heap.size 0 rfl (R.rcells X.1) _ (fun _ h => R.RAt.range (R.RAt.later HPv23.out h)) Tryz.underlying62 rfl (by rw [R.size31, R.rcells_len _ HXL.out])) hHeld ?_
      simp only [Act.put, List.setIfInBounds_toArray, List.set_cons_zero, List.set_cons_succ]
      refine wpAnyH_take (i := 6) (v := _) (by simp; rfl) (by kernel_rfl) (by kernel_rfl) (by kernel_rfl) (fun _ _ _ h => h) (yieldsIf_load_mid (by rfl) 87 (.tmp 9) rfl v21.heap.size 0 rfl (R.rcells X.1) _ (fun _ h => R.RAt.range (R.RAt.later HQv23.out h)) Tryz.underlying87 rfl (by rw [R.size37, R.rcells_len _ HXL.out])) hHeld ?_
      simp only [Act.put, List.setIfInBounds_toArray, List.set_cons_zero, List.set_cons_succ]
      refine wpAnyH_ready (rs := [5]) (by kernel_rfl) (by simp) ?_
      refine AllReadyH.cons (by simp; rfl) (fun Kc hKc => ?_) AllReadyH.nil
      go_simp
      refine (R.plain_any X.1 HXL.out wp).mono ?_
      rintro r3 wq ⟨rfl, bq⟩
      have Dq : Hid (Below v23.heap.size v23 wq) := below_then Dp.out bq
      clear bq Dp hHeld
      refine hKc.out _ _ Dq.out (fun hHeld => ?_)
      clear hKc Kc
      refine wpAnyH_take (i := 7) (v := _) (by simp; rfl) (by kernel_rfl) (by kernel_rfl) (by kernel_rfl) (fun _ _ _ h => h) (yields_eql_is (by rfl) 87 rfl rfl rfl R.eqg37 QE.out) hHeld ?_
      simp only [Act.put, List.setIfInBounds_toArray, List.set_cons_zero, List.set_cons_succ]
      refine wpAnyH_take (i := 8) (v := ?va29) (by simp; rfl) (by kernel_rfl) (by kernel_rfl) (by kernel_rfl) (fun _ _ _ h => h) (Or.inl ⟨by rfl, ?ya29⟩) hHeld ?ra29
      case ya29 => intro w hSw; clear hSw; go_simp; with_reducible rfl
      simp only [Act.put, List.setIfInBounds_toArray, List.set_cons_zero, List.set_cons_succ]
      refine wpAnyH_take (i := 9) (v := ?va30) (by simp; rfl) (by kernel_rfl) (by kernel_rfl) (by kernel_rfl) (fun _ _ _ h => h) (Or.inl ⟨by rfl, ?ya30⟩) hHeld ?ra30
      case ya30 => intro w hSw; clear hSw; go_simp; with_reducible rfl
      simp only [Act.put, List.setIfInBounds_toArray, List.set_cons_zero, List.set_cons_succ]
      clear hHeld
      refine wpAnyH_done (by kernel_rfl) (NoPanic.normal ?_) _
      have HQz : Hid (Sq wq B P 2 (k + 1)) := ((HQ0.out.later (below_then HBv23.out Dq.out))).more (Nat.le_succ _)
      have HBz : Hid (Below B w wq) := (below_then HB0.out (below_then HBv23.out Dq.out)).mono hB
      clear HQv23 HPv23 HBv23 Dq QE HQ0 HB0 HX HXL
      go_wp2_with fail
      refine (HQz.out.tells l2 (by omega)).mono ?_
      rintro r9 w9 ⟨rfl, b9⟩
      have HQ9 : Hid (Sq w9 B P 2 (k + 1)) := HQz.out.later b9
      have HB9 : Hid (Below B w w9) := HBz.out.trans (b9.mono HQz.out.B)
      clear b9 HQz HBz
      go_wp2_with fail
      go_ret
      exact ⟨rfl, HQ9.out, HB9.out⟩
    · rw [if_pos (by rfl)]
      refine run_alloc_is 87 rfl (R.alloc37 v0) ?_
      simp only [Act.put, List.setIfInBounds_toArray, List.set_cons_zero, List.set_cons_succ]
      have HBv21 : Hid (Below w0.heap.size w0 (v0.alloc (.cells (R.rcells R.rec0).toArray 87))) := below_then HBv0.out (below_alloc _ _)
      have HQv21 : Hid (R.RAt 87 (v0.alloc (.cells (R.rcells R.rec0).toArray 87)) v0.heap.size R.rec0) := R.RAt.new 87 _ _
      have HZb : Hid (w0.heap.size ≤ v0.heap.size) := HBv0.out.size
      have HPv21 : Hid (R.RAt 62 (v0.alloc (.cells (R.rcells R.rec0).toArray 87)) v1.heap.size X.1) := R.RAt.later HPv0.out (below_alloc _ _)
      have HN : Hid (v1.heap.size < v0.heap.size) := R.RAt.lt HPv0.out
      clear HBv0 HPv0 hHeld
      generalize v0.alloc (.cells (R.rcells R.rec0).toArray 87) = v21 at *
      refine hKc.out _ _ HBv21.out (fun hHeld => ?_)
      clear hKc Kc
      refine wpAnyH_ready (rs := [8]) (by kernel_rfl) (by simp) ?_
      refine AllReadyH.cons (by simp; rfl) (fun Kc hKc => ?_) AllReadyH.nil
      go_simp
      refine (rlread_at (RL.later HRS.out HBv21.out) hle HNb.out pos hp0).mono ?_
      rintro r1 v22 ⟨rfl, bn⟩
      rw [← HX.out]
      have HBv22 : Hid (Below w0.heap.size w0 v22) := below_then HBv21.out bn
      have HQv22 : Hid (R.RAt 87 v22 v0.heap.size R.rec0) := R.RAt.later HQv21.out bn
      have HPv22 : Hid (R.RAt 62 v22 v1.heap.size X.1) := R.RAt.later HPv21.out bn
      clear bn HBv21 HQv21 HPv21 hHeld
      refine hKc.out _ _ HBv22.out (fun hHeld => ?_)
      clear hKc Kc
      refine wpAnyH_take (i := 9) (v := ?va31) (by simp; rfl) (by kernel_rfl) (by kernel_rfl) (by kernel_rfl) (fun _ _ _ h => h) (Or.inl ⟨by rfl, ?ya31⟩) hHeld ?ra31
      case ya31 => intro w hSw; clear hSw; go_simp; with_reducible rfl
      simp only [Act.put, List.setIfInBounds_toArray, List.set_cons_zero, List.set_cons_succ]
      refine wpAnyH_take (i := 10) (v := ?va32) (by simp; rfl) (by kernel_rfl) (by kernel_rfl) (by kernel_rfl) (fun _ _ _ h => h) (Or.inl ⟨by rfl, ?ya32⟩) hHeld ?ra32
      case ya32 => intro w hSw; clear hSw; go_simp; with_reducible rfl
      simp only [Act.put, List.setIfInBounds_toArray, List.set_cons_zero, List.set_cons_succ]
      refine wpAnyH_take (i := 11) (v := ?va33) (by simp; rfl) (by kernel_rfl) (by kernel_rfl) (by kernel_rfl) (fun _ _ _ h => h) (Or.inl ⟨by rfl, ?ya33⟩) hHeld ?ra33
      case ya33 => intro w hSw; clear hSw; go_simp; with_reducible rfl
      simp only [Act.put, List.setIfInBounds_toArray, List.set_cons_zero, List.set_cons_succ]
      refine wpAnyH_ready (rs := [13]) (by kernel_rfl) (by simp) ?_
      refine AllReadyH.cons (by simp; rfl) (fun Kc hKc => ?_) AllReadyH.nil
      rw [if_pos (by rfl)]
      refine run_store_is 87 rfl rfl rfl (R.RAt.store R.size37 HQv22.out R.rec0_len HXL.out) ?_
      simp only [Act.put]
      have HBv23 : Hid (Below w0.heap.size w0 (v22.setRow v0.heap.size (R.rcells X.1).toArray)) := below_setRow HBv22.out HZb.out _
      have HQv23 : Hid (R.RAt 87 (v22.setRow v0.heap.size (R.rcells X.1).toArray) v0.heap.size X.1) := R.RAt.stored HQv22.out _
      have HPv23 : Hid (R.RAt 62 (v22.setRow v0.heap.size (R.rcells X.1).toArray) v1.heap.size X.1) := R.RAt.other HPv22.out _ (Nat.ne_of_lt HN.out)
      clear HBv22 HQv22 HPv22 HN hHeld
      generalize v22.setRow v0.heap.size (R.rcells X.1).toArray = v23 at *
      refine hKc.out _ _ HBv23.out (fun hHeld => ?_)
      clear hKc Kc
      refine wpAnyH_take (i := 14) (v := ?va34) (by simp; rfl) (by kernel_rfl) (by kernel_rfl) (by kernel_rfl) (fun _ _ _ h => h) (Or.inl ⟨by rfl, ?ya34⟩) hHeld ?ra34
      case ya34 => intro w hSw; clear hSw; go_simp; with_reducible rfl
      simp only [Act.put, List.setIfInBounds_toArray, List.set_cons_zero, List.set_cons_succ]
      clear hHeld
      refine wpAnyH_done (by kernel_rfl) (NoPanic.normal ?_) _
      have QE : Hid (∀ w, (binOp .eql 87 (.agg (R.rcells X.1).toArray) (.agg (R.rcells X.1).toArray)).run Tryz.prog w = .ok (.bool true) w) := fun w => by rw [R.eql37 w _ _ HXL.out HXL.out, R.recB_same]
      go_wp2_with fail
      refine wp_region_noPanic ?_
      refine wp_region_held_drew (S := fun w' => Below v23.heap.size v23 w') (by kernel_rfl) (below_drawn 1) (fun hHeld => ?_)
      have Dp : Hid (Below v23.heap.size v23 v23.drew) := hHeld
      generalize v23.drew = wp at *
      refine wpAnyH_take (i := 0) (v := ?va35) (by simp; rfl) (by kernel_rfl) (by kernel_rfl) (by kernel_rfl) (fun _ _ _ h => h) (Or.inl ⟨by rfl, ?ya35⟩) hHeld ?ra35
      case ya35 => intro w hSw; clear hSw; go_simp; with_reducible rfl
      simp only [Act.put, List.setIfInBounds_toArray, List.set_cons_zero, List.set_cons_succ]
      refine wpAnyH_take (i := 1) (v := ?va36) (by simp; rfl) (by kernel_rfl) (by kernel_rfl) (by kernel_rfl) (fun _ _ _ h => h) (Or.inl ⟨by rfl, ?ya36⟩) hHeld ?ra36
      case ya36 => intro w hSw; clear hSw; go_simp; with_reducible rfl
      simp only [Act.put, List.setIfInBounds_toArray, List.set_cons_zero, List.set_cons_succ]
      refine wpAnyH_take (i := 2) (v := ?va37) (by simp; rfl) (by kernel_rfl) (by kernel_rfl) (by kernel_rfl) (fun _ _ _ h => h) (Or.inl ⟨by rfl, ?ya37⟩) hHeld ?ra37
      case ya37 => intro w hSw; clear hSw; go_simp; with_reducible rfl
      simp only [Act.put, List.setIfInBounds_toArray, List.set_cons_zero, List.set_cons_succ]
      refine wpAnyH_take (i := 3) (v := ?va38) (by simp; rfl) (by kernel_rfl) (by kernel_rfl) (by kernel_rfl) (fun _ _ _ h => h) (Or.inl ⟨by rfl, ?ya38⟩) hHeld ?ra38
      case ya38 => intro w hSw; clear hSw; go_simp; with_reducible rfl
      simp only [Act.put, List.setIfInBounds_toArray, List.set_cons_zero, List.set_cons_succ]
      refine wpAnyH_take (i := 4) (v := _) (by simp; rfl) (by kernel_rfl) (by kernel_rfl) (by kernel_rfl) (fun _ _ _ h => h) (yieldsIf_load_mid (by rfl) 62 (.tmp 7) rfl v1.heap.size 0 rfl (R.rcells X.1) _ (fun _ h => R.RAt.range (R.RAt.later HPv23.out h)) Tryz.underlying62 rfl (by rw [R.size31, R.rcells_len _ HXL.out])) hHeld ?_
      simp only [Act.put, List.setIfInBounds_toArray, List.set_cons_zero, List.set_cons_succ]
      refine wpAnyH_take (i := 6) (v := _) (by simp; rfl) (by kernel_rfl) (by kernel_rfl) (by kernel_rfl) (fun _ _ _ h => h) (yieldsIf_load_mid (by rfl) 87 (.tmp 9) rfl v0.heap.size 0 rfl (R.rcells X.1) _ (fun _ h => R.RAt.range (R.RAt.later HQv23.out h)) Tryz.underlying87 rfl (by rw [R.size37, R.rcells_len _ HXL.out])) hHeld ?_
      simp only [Act.put, List.setIfInBounds_toArray, List.set_cons_zero, List.set_cons_succ]
      refine wpAnyH_ready (rs := [5]) (by kernel_rfl) (by simp) ?_
      refine AllReadyH.cons (by simp; rfl) (fun Kc hKc => ?_) AllReadyH.nil
      go_simp
      refine (R.plain_any X.1 HXL.out wp).mono ?_
      rintro r3 wq ⟨rfl, bq⟩
      have Dq : Hid (Below v23.heap.size v23 wq) := below_then Dp.out bq
      clear bq Dp hHeld
      refine hKc.out _ _ Dq.out (fun hHeld => ?_)
      clear hKc Kc
      refine wpAnyH_take (i := 7) (v := _) (by simp; rfl) (by kernel_rfl) (by kernel_rfl) (by kernel_rfl) (fun _ _ _ h => h) (yields_eql_is (by rfl) 87 rfl rfl rfl R.eqg37 QE.out) hHeld ?_
      simp only [Act.put, List.setIfInBounds_toArray, List.set_cons_zero, List.set_cons_succ]
      refine wpAnyH_take (i := 8) (v := ?va39) (by simp; rfl) (by kernel_rfl) (by kernel_rfl) (by kernel_rfl) (fun _ _ _ h => h) (Or.inl ⟨by rfl, ?ya39⟩) hHeld ?ra39
      case ya39 => intro w hSw; clear hSw; go_simp; with_reducible rfl
      simp only [Act.put, List.setIfInBounds_toArray, List.set_cons_zero, List.set_cons_succ]
      refine wpAnyH_take (i := 9) (v := ?va40) (by simp; rfl) (by kernel_rfl) (by kernel_rfl) (by kernel_rfl) (fun _ _ _ h => h) (Or.inl ⟨by rfl, ?ya40⟩) hHeld ?ra40
      case ya40 => intro w hSw; clear hSw; go_simp; with_reducible rfl
      simp only [Act.put, List.setIfInBounds_toArray, List.set_cons_zero, List.set_cons_succ]
      clear hHeld
      refine wpAnyH_done (by kernel_rfl) (NoPanic.normal ?_) _
      have HQz : Hid (Sq wq B P 2 (k + 1)) := ((HQ0.out.later (below_then HBv23.out Dq.out))).more (Nat.le_succ _)
      have HBz : Hid (Below B w wq) := (below_then HB0.out (below_then HBv23.out Dq.out)).mono hB
      clear HQv23 HPv23 HBv23 Dq QE HQ0 HB0 HX HXL
      go_wp2_with fail
      refine (HQz.out.tells l2 (by omega)).mono ?_
      rintro r9 w9 ⟨rfl, b9⟩
      have HQ9 : Hid (Sq w9 B P 2 (k + 1)) := HQz.out.later b9
      have HB9 : Hid (Below B w w9) := HBz.out.trans (b9.mono HQz.out.B)
      clear b9 HQz HBz
      go_wp2_with fail
      go_ret
      exact ⟨rfl, HQ9.out, HB9.out⟩
  · rw [if_pos (by rfl)]
    refine run_alloc_is 62 rfl (R.alloc31 u) ?_
    simp only [Act.put, List.setIfInBounds_toArray, List.set_cons_zero, List.set_cons_succ]
    have HBv1 : Hid (Below w0.heap.size w0 (u.alloc (.cells (R.rcells R.rec0).toArray 62))) := below_then HBu.out (below_alloc _ _)
    have HQv1 : Hid (R.RAt 62 (u.alloc (.cells (R.rcells R.rec0).toArray 62)) u.heap.size R.rec0) := R.RAt.new 62 _ _
    have HZa : Hid (w0.heap.size ≤ u.heap.size) := HBu.out.size
    clear HBu hHeld
    generalize u.alloc (.cells (R.rcells R.rec0).toArray 62) = v1 at *
    refine hKc.out _ _ HBv1.out (fun hHeld => ?_)
    clear hKc Kc
    refine wpAnyH_ready (rs := [8]) (by kernel_rfl) (by simp) ?_
    refine AllReadyH.cons (by simp; rfl) (fun Kc hKc => ?_) AllReadyH.nil
    go_simp
    refine (wread_at (LD.later HLS.out HBv1.out) (HT0.out.later HBv1.out) pos hp0).mono ?_
    rintro r1 v2 ⟨rfl, bn⟩
    rw [← HX.out]
    have HBv2 : Hid (Below w0.heap.size w0 v2) := below_then HBv1.out bn
    have HQv2 : Hid (R.RAt 62 v2 u.heap.size R.rec0) := R.RAt.later HQv1.out bn
    clear bn HBv1 HQv1 hHeld
    refine hKc.out _ _ HBv2.out (fun hHeld => ?_)
    clear hKc Kc
    refine wpAnyH_take (i := 9) (v := ?va41) (by simp; rfl) (by kernel_rfl) (by kernel_rfl) (by kernel_rfl) (fun _ _ _ h => h) (Or.inl ⟨by rfl, ?ya41⟩) hHeld ?ra41
    case ya41 => intro w hSw; clear hSw; go_simp; with_reducible rfl
    simp only [Act.put, List.setIfInBounds_toArray, List.set_cons_zero, List.set_cons_succ]
    refine wpAnyH_take (i := 10) (v := ?va42) (by simp; rfl) (by kernel_rfl) (by kernel_rfl) (by kernel_rfl) (fun _ _ _ h => h) (Or.inl ⟨by rfl, ?ya42⟩) hHeld ?ra42
    case ya42 => intro w hSw; clear hSw; go_simp; with_reducible rfl
    simp only [Act.put, List.setIfInBounds_toArray, List.set_cons_zero, List.set_cons_succ]
    refine wpAnyH_take (i := 11) (v := ?va43) (by simp; rfl) (by kernel_rfl) (by kernel_rfl) (by kernel_rfl) (fun _ _ _ h => h) (Or.inl ⟨by rfl, ?ya43⟩) hHeld ?ra43
    case ya43 => intro w hSw; clear hSw; go_simp; with_reducible rfl
    simp only [Act.put, List.setIfInBounds_toArray, List.set_cons_zero, List.set_cons_succ]
    refine wpAnyH_ready (rs := [13]) (by kernel_rfl) (by simp) ?_
    refine AllReadyH.cons (by simp; rfl) (fun Kc hKc => ?_) AllReadyH.nil
    rw [if_pos (by rfl)]
    refine run_store_is 62 rfl rfl rfl (R.RAt.store R.size31 HQv2.out R.rec0_len HXL.out) ?_
    simp only [Act.put]
    have HBv3 : Hid (Below w0.heap.size w0 (v2.setRow u.heap.size (R.rcells X.1).toArray)) := below_setRow HBv2.out HZa.out _
    have HQv3 : Hid (R.RAt 62 (v2.setRow u.heap.size (R.rcells X.1).toArray) u.heap.size X.1) := R.RAt.stored HQv2.out _
    clear HBv2 HQv2 hHeld
    generalize v2.setRow u.heap.size (R.rcells X.1).toArray = v3 at *
    refine hKc.out _ _ HBv3.out (fun hHeld => ?_)
    clear hKc Kc
    refine wpAnyH_take (i := 14) (v := ?va44) (by simp; rfl) (by kernel_rfl) (by kernel_rfl) (by kernel_rfl) (fun _ _ _ h => h) (Or.inl ⟨by rfl, ?ya44⟩) hHeld ?ra44
    case ya44 => intro w hSw; clear hSw; go_simp; with_reducible rfl
    simp only [Act.put, List.setIfInBounds_toArray, List.set_cons_zero, List.set_cons_succ]
    clear hHeld
    refine wpAnyH_done (by kernel_rfl) (NoPanic.normal ?_) _
    go_wp2_with fail
    refine wp_region_noPanic ?_
    refine wp_region_held_drew (S := fun w' => Below w0.heap.size w0 w') (by kernel_rfl) (below_then HBv3.out (below_drawn 1)) (fun hHeld => ?_)
    have HBv0 : Hid (Below w0.heap.size w0 v3.drew) := below_then HBv3.out (below_drawn 1)
    have HPv0 : Hid (R.RAt 62 v3.drew u.heap.size X.1) := HQv3.out
    clear HBv3 HQv3
    generalize v3.drew = v0 at *
    refine wpAnyH_take (i := 0) (v := ?va45) (by simp; rfl) (by kernel_rfl) (by kernel_rfl) (by kernel_rfl) (fun _ _ _ h => h) (Or.inl ⟨by rfl, ?ya45⟩) hHeld ?ra45
    case ya45 => intro w hSw; clear hSw; go_simp; with_reducible rfl
    simp only [Act.put, List.setIfInBounds_toArray, List.set_cons_zero, List.set_cons_succ]
    refine wpAnyH_take (i := 1) (v := ?va46) (by simp; rfl) (by kernel_rfl) (by kernel_rfl) (by kernel_rfl) (fun _ _ _ h => h) (Or.inl ⟨by rfl, ?ya46⟩) hHeld ?ra46
    case ya46 => intro w hSw; clear hSw; go_simp; with_reducible rfl
    simp only [Act.put, List.setIfInBounds_toArray, List.set_cons_zero, List.set_cons_succ]
    refine wpAnyH_take (i := 2) (v := ?va47) (by simp; rfl) (by kernel_rfl) (by kernel_rfl) (by kernel_rfl) (fun _ _ _ h => h) (Or.inl ⟨by rfl, ?ya47⟩) hHeld ?ra47
    case ya47 => intro w hSw; clear hSw; go_simp; with_reducible rfl
    simp only [Act.put, List.setIfInBounds_toArray, List.set_cons_zero, List.set_cons_succ]
    refine wpAnyH_take (i := 3) (v := ?va48) (by simp; rfl) (by kernel_rfl) (by kernel_rfl) (by kernel_rfl) (fun _ _ _ h => h) (Or.inl ⟨by rfl, ?ya48⟩) hHeld ?ra48
    case ya48 => intro w hSw; clear hSw; go_simp; with_reducible rfl
    simp only [Act.put, List.setIfInBounds_toArray, List.set_cons_zero, List.set_cons_succ]
    refine wpAnyH_take (i := 4) (v := ?va49) (by simp; rfl) (by kernel_rfl) (by kernel_rfl) (by kernel_rfl) (fun _ _ _ h => h) (Or.inl ⟨by rfl, ?ya49⟩) hHeld ?ra49
    case ya49 => intro w hSw; clear hSw; go_simp; with_reducible rfl
    simp only [Act.put, List.setIfInBounds_toArray, List.set_cons_zero, List.set_cons_succ]
    refine wpAnyH_take (i := 5) (v := ?va50) (by simp; rfl) (by kernel_rfl) (by kernel_rfl) (by kernel_rfl) (fun _ _ _ h => h) (Or.inl ⟨by rfl, ?ya50⟩) hHeld ?ra50
    case ya50 => intro w hSw; have z := (hSw.cell (p := ⟨P, 4 + i, none⟩) M1.out).trans c2; clear hSw; go_simp; with_reducible rfl
    simp only [Act.put, List.setIfInBounds_toArray, List.set_cons_zero, List.set_cons_succ]
    refine wpAnyH_take (i := 6) (v := ?va51) (by simp; rfl) (by kernel_rfl) (by kernel_rfl) (by kernel_rfl) (fun _ _ _ h => h) (Or.inl ⟨by rfl, ?ya51⟩) hHeld ?ra51
    case ya51 => intro w hSw; clear hSw; go_simp; with_reducible rfl
    simp only [Act.put, List.setIfInBounds_toArray, List.set_cons_zero, List.set_cons_succ]
    refine wpAnyH_take (i := 7) (v := ?va52) (by simp; rfl) (by kernel_rfl) (by kernel_rfl) (by kernel_rfl) (fun _ _ _ h => h) (Or.inl ⟨by rfl, ?ya52⟩) hHeld ?ra52
    case ya52 => intro w hSw; have z := OAt.pos (LAt.later HO0.out hSw) HV.out; clear hSw; go_simp; with_reducible rfl
    simp only [Act.put, List.setIfInBounds_toArray, List.set_cons_zero, List.set_cons_succ]
    refine wpAnyH_ready (rs := [8, 12]) (by kernel_rfl) (by simp) ?_
    refine AllReadyH.cons (by simp; rfl) (fun Kc hKc => ?_) (AllReadyH.cons (by simp; rfl) (fun Kc hKc => ?_) AllReadyH.nil)
    · go_simp
      refine (rlread_at (RL.later HRS.out HBv0.out) hle HNb.out pos hp0).mono ?_
      rintro r1 v21 ⟨rfl, bn⟩
      rw [← HX.out]
      have HBv21 : Hid (Below w0.heap.size w0 v21) := below_then HBv0.out bn
      have HPv21 : Hid (R.RAt 62 v21 u.heap.size X.1) := R.RAt.later HPv0.out bn
      clear bn HBv0 HPv0 hHeld
      refine hKc.out _ _ HBv21.out (fun hHeld => ?_)
      clear hKc Kc
      refine wpAnyH_take (i := 9) (v := ?va53) (by simp; rfl) (by kernel_rfl) (by kernel_rfl) (by kernel_rfl) (fun _ _ _ h => h) (Or.inl ⟨by rfl, ?ya53⟩) hHeld ?ra53
      case ya53 => intro w hSw; clear hSw; go_simp; with_reducible rfl
      simp only [Act.put, List.setIfInBounds_toArray, List.set_cons_zero, List.set_cons_succ]
      refine wpAnyH_take (i := 10) (v := ?va54) (by simp; rfl) (by kernel_rfl) (by kernel_rfl) (by kernel_rfl) (fun _ _ _ h => h) (Or.inl ⟨by rfl, ?ya54⟩) hHeld ?ra54
      case ya54 => intro w hSw; clear hSw; go_simp; with_reducible rfl
      simp only [Act.put, List.setIfInBounds_toArray, List.set_cons_zero, List.set_cons_succ]
      refine wpAnyH_take (i := 11) (v := ?va55) (by simp; rfl) (by kernel_rfl) (by kernel_rfl) (by kernel_rfl) (fun _ _ _ h => h) (Or.inl ⟨by rfl, ?ya55⟩) hHeld ?ra55
      case ya55 => intro w hSw; clear hSw; go_simp; with_reducible rfl
      simp only [Act.put, List.setIfInBounds_toArray, List.set_cons_zero, List.set_cons_succ]
      refine wpAnyH_ready (rs := [12]) (by kernel_rfl) (by simp) ?_
      refine AllReadyH.cons (by simp; rfl) (fun Kc hKc => ?_) AllReadyH.nil
      rw [if_pos (by rfl)]
      refine run_alloc_is 87 rfl (R.alloc37 v21) ?_
      simp only [Act.put, List.setIfInBounds_toArray, List.set_cons_zero, List.set_cons_succ]
      have HBv22 : Hid (Below w0.heap.size w0 (v21.alloc (.cells (R.rcells R.rec0).toArray 87))) := below_then HBv21.out (below_alloc _ _)
      have HQv22 : Hid (R.RAt 87 (v21.alloc (.cells (R.rcells R.rec0).toArray 87)) v21.heap.size R.rec0) := R.RAt.new 87 _ _
      have HZb : Hid (w0.heap.size ≤ v21.heap.size) := HBv21.out.size
      have HPv22 : Hid (R.RAt 62 (v21.alloc (.cells (R.rcells R.rec0).toArray 87)) u.heap.size X.1) := R.RAt.later HPv21.out (below_alloc _ _)
      have HN : Hid (u.heap.size < v21.heap.size) := R.RAt.lt HPv21.out
      clear HBv21 HPv21 hHeld
      generalize v21.alloc (.cells (R.rcells R.rec0).toArray 87) = v22 at *
      refine hKc.out _ _ HBv22.out (fun hHeld => ?_)
      clear hKc Kc
      refine wpAnyH_ready (rs := [13]) (by kernel_rfl) (by simp) ?_
      refine AllReadyH.cons (by simp; rfl) (fun Kc hKc => ?_) AllReadyH.nil
      rw [if_pos (by rfl)]
      refine run_store_is 87 rfl rfl rfl (R.RAt.store R.size37 HQv22.out R.rec0_len HXL.out) ?_
      simp only [Act.put]
      have HBv23 : Hid (Below w0.heap.size w0 (v22.setRow v21.heap.size (R.rcells X.1).toArray)) := below_setRow HBv22.out HZb.out _
      have HQv23 : Hid (R.RAt 87 (v22.setRow v21.heap.size (R.rcells X.1).toArray) v21.heap.size X.1) := R.RAt.stored HQv22.out _
      have HPv23 : Hid (R.RAt 62 (v22.setRow v21.heap.size (R.rcells X.1).toArray) u.heap.size X.1) := R.RAt.other HPv22.out _ (Nat.ne_of_lt HN.out)
      clear HBv22 HQv22 HPv22 HN hHeld
      generalize v22.setRow v21.heap.size (R.rcells X.1).toArray = v23 at *
      refine hKc.out _ _ HBv23.out (fun hHeld => ?_)
      clear hKc Kc
      refine wpAnyH_take (i := 14) (v := ?va56) (by simp; rfl) (by kernel_rfl) (by kernel_rfl) (by kernel_rfl) (fun _ _ _ h => h) (Or.inl ⟨by rfl, ?ya56⟩) hHeld ?ra56
      case ya56 => intro w hSw; clear hSw; go_simp; with_reducible rfl
      simp only [Act.put, List.setIfInBounds_toArray, List.set_cons_zero, List.set_cons_succ]
      clear hHeld
      refine wpAnyH_done (by kernel_rfl) (NoPanic.normal ?_) _
      have QE : Hid (∀ w, (binOp .eql 87 (.agg (R.rcells X.1).toArray) (.agg (R.rcells X.1).toArray)).run Tryz.prog w = .ok (.bool true) w) := fun w => by rw [R.eql37 w _ _ HXL.out HXL.out, R.recB_same]
      go_wp2_with fail
      refine wp_region_noPanic ?_
      refine wp_region_held_drew (S := fun w' => Below v23.heap.size v23 w') (by kernel_rfl) (below_drawn 1) (fun hHeld => ?_)
      have Dp : Hid (Below v23.heap.size v23 v23.drew) := hHeld
      generalize v23.drew = wp at *
      refine wpAnyH_take (i := 0) (v := ?va57) (by simp; rfl) (by kernel_rfl) (by kernel_rfl) (by kernel_rfl) (fun _ _ _ h => h) (Or.inl ⟨by rfl, ?ya57⟩) hHeld ?ra57
      case ya57 => intro w hSw; clear hSw; go_simp; with_reducible rfl
      simp only [Act.put, List.setIfInBounds_toArray, List.set_cons_zero, List.set_cons_succ]
      refine wpAnyH_take (i := 1) (v := ?va58) (by simp; rfl) (by kernel_rfl) (by kernel_rfl) (by kernel_rfl) (fun _ _ _ h => h) (Or.inl ⟨by rfl, ?ya58⟩) hHeld ?ra58
      case ya58 => intro w hSw; clear hSw; go_simp; with_reducible rfl
      simp only [Act.put, List.setIfInBounds_toArray, List.set_cons_zero, List.set_cons_succ]
      refine wpAnyH_take (i := 2) (v := ?va59) (by simp; rfl) (by kernel_rfl) (by kernel_rfl) (by kernel_rfl) (fun _ _ _ h => h) (Or.inl ⟨by rfl, ?ya59⟩) hHeld ?ra59
      case ya59 => intro w hSw; clear hSw; go_simp; with_reducible rfl
      simp only [Act.put, List.setIfInBounds_toArray, List.set_cons_zero, List.set_cons_succ]
      refine wpAnyH_take (i := 3) (v := ?va60) (by simp; rfl) (by kernel_rfl) (by kernel_rfl) (by kernel_rfl) (fun _ _ _ h => h) (Or.inl ⟨by rfl, ?ya60⟩) hHeld ?ra60
      case ya60 => intro w hSw; clear hSw; go_simp; with_reducible rfl
      simp only [Act.put, List.setIfInBounds_toArray, List.set_cons_zero, List.set_cons_succ]
      refine wpAnyH_take (i := 4) (v := _) (by simp; rfl) (by kernel_rfl) (by kernel_rfl) (by kernel_rfl) (fun _ _ _ h => h) (yieldsIf_load_mid (by rfl) 62 (.tmp 7) rfl u.heap.size 0 rfl (R.rcells X.1) _ (fun _ h => R.RAt.range (R.RAt.later HPv23.out h)) Tryz.underlying62 rfl (by rw [R.size31, R.rcells_len _ HXL.out])) hHeld ?_
      simp only [Act.put, List.setIfInBounds_toArray, List.set_cons_zero, List.set_cons_succ]
      refine wpAnyH_take (i := 6) (v := _) (by simp; rfl) (by kernel_rfl) (by kernel_rfl) (by kernel_rfl) (fun _ _ _ h => h) (yieldsIf_load_mid (by rfl) 87 (.tmp 9) rfl v21.heap.size 0 rfl (R.rcells X.1) _ (fun _ h => R.RAt.range (R.RAt.later HQv23.out h)) Tryz.underlying87 rfl (by rw [R.size37, R.rcells_len _ HXL.out])) hHeld ?_
      simp only [Act.put, List.setIfInBounds_toArray, List.set_cons_zero, List.set_cons_succ]
      refine wpAnyH_ready (rs := [5]) (by kernel_rfl) (by simp) ?_
      refine AllReadyH.cons (by simp; rfl) (fun Kc hKc => ?_) AllReadyH.nil
      go_simp
      refine (R.plain_any X.1 HXL.out wp).mono ?_
      rintro r3 wq ⟨rfl, bq⟩
      have Dq : Hid (Below v23.heap.size v23 wq) := below_then Dp.out bq
      clear bq Dp hHeld
      refine hKc.out _ _ Dq.out (fun hHeld => ?_)
      clear hKc Kc
      refine wpAnyH_take (i := 7) (v := _) (by simp; rfl) (by kernel_rfl) (by kernel_rfl) (by kernel_rfl) (fun _ _ _ h => h) (yields_eql_is (by rfl) 87 rfl rfl rfl R.eqg37 QE.out) hHeld ?_
      simp only [Act.put, List.setIfInBounds_toArray, List.set_cons_zero, List.set_cons_succ]
      refine wpAnyH_take (i := 8) (v := ?va61) (by simp; rfl) (by kernel_rfl) (by kernel_rfl) (by kernel_rfl) (fun _ _ _ h => h) (Or.inl ⟨by rfl, ?ya61⟩) hHeld ?ra61
      case ya61 => intro w hSw; clear hSw; go_simp; with_reducible rfl
      simp only [Act.put, List.setIfInBounds_toArray, List.set_cons_zero, List.set_cons_succ]
      refine wpAnyH_take (i := 9) (v := ?va62) (by simp; rfl) (by kernel_rfl) (by kernel_rfl) (by kernel_rfl) (fun _ _ _ h => h) (Or.inl ⟨by rfl, ?ya62⟩) hHeld ?ra62
      case ya62 => intro w hSw; clear hSw; go_simp; with_reducible rfl
      simp only [Act.put, List.setIfInBounds_toArray, List.set_cons_zero, List.set_cons_succ]
      clear hHeld
      refine wpAnyH_done (by kernel_rfl) (NoPanic.normal ?_) _
      have HQz : Hid (Sq wq B P 2 (k + 1)) := ((HQ0.out.later (below_then HBv23.out Dq.out))).more (Nat.le_succ _)
      have HBz : Hid (Below B w wq) := (below_then HB0.out (below_then HBv23.out Dq.out)).mono hB
      clear HQv23 HPv23 HBv23 Dq QE HQ0 HB0 HX HXL
      go_wp2_with fail
      refine (HQz.out.tells l2 (by omega)).mono ?_
      rintro r9 w9 ⟨rfl, b9⟩
      have HQ9 : Hid (Sq w9 B P 2 (k + 1)) := HQz.out.later b9
      have HB9 : Hid (Below B w w9) := HBz.out.trans (b9.mono HQz.out.B)
      clear b9 HQz HBz
      go_wp2_with fail
      go_ret
      exact ⟨rfl, HQ9.out, HB9.out⟩
    · rw [if_pos (by rfl)]
      refine run_alloc_is 87 rfl (R.alloc37 v0) ?_
      simp only [Act.put, List.setIfInBounds_toArray, List.set_cons_zero, List.set_cons_succ]
      have HBv21 : Hid (Below w0.heap.size w0 (v0.alloc (.cells (R.rcells R.rec0).toArray 87))) := below_then HBv0.out (below_alloc _ _)
      have HQv21 : Hid (R.RAt 87 (v0.alloc (.cells (R.rcells R.rec0).toArray 87)) v0.heap.size R.rec0) := R.RAt.new 87 _ _
      have HZb : Hid (w0.heap.size ≤ v0.heap.size) := HBv0.out.size
      have HPv21 : Hid (R.RAt 62 (v0.alloc (.cells (R.rcells R.rec0).toArray 87)) u.heap.size X.1) := R.RAt.later HPv0.out (below_alloc _ _)
      have HN : Hid (u.heap.size < v0.heap.size) := R.RAt.lt HPv0.out
      clear HBv0 HPv0 hHeld
      generalize v0.alloc (.cells (R.rcells R.rec0).toArray 87) = v21 at *
      refine hKc.out _ _ HBv21.out (fun hHeld => ?_)
      clear hKc Kc
      refine wpAnyH_ready (rs := [8]) (by kernel_rfl) (by simp) ?_
      refine AllReadyH.cons (by simp; rfl) (fun Kc hKc => ?_) AllReadyH.nil
      go_simp
      refine (rlread_at (RL.later HRS.out HBv21.out) hle HNb.out pos hp0).mono ?_
      rintro r1 v22 ⟨rfl, bn⟩
      rw [← HX.out]
      have HBv22 : Hid (Below w0.heap.size w0 v22) := below_then HBv21.out bn
      have HQv22 : Hid (R.RAt 87 v22 v0.heap.size R.rec0) := R.RAt.later HQv21.out bn
      have HPv22 : Hid (R.RAt 62 v22 u.heap.size X.1) := R.RAt.later HPv21.out bn
      clear bn HBv21 HQv21 HPv21 hHeld
      refine hKc.out _ _ HBv22.out (fun hHeld => ?_)
      clear hKc Kc
      refine wpAnyH_take (i := 9) (v := ?va63) (by simp; rfl) (by kernel_rfl) (by kernel_rfl) (by kernel_rfl) (fun _ _ _ h => h) (Or.inl ⟨by rfl, ?ya63⟩) hHeld ?ra63
      case ya63 => intro w hSw; clear hSw; go_simp; with_reducible rfl
      simp only [Act.put, List.setIfInBounds_toArray, List.set_cons_zero, List.set_cons_succ]
      refine wpAnyH_take (i := 10) (v := ?va64) (by simp; rfl) (by kernel_rfl) (by kernel_rfl) (by kernel_rfl) (fun _ _ _ h => h) (Or.inl ⟨by rfl, ?ya64⟩) hHeld ?ra64
      case ya64 => intro w hSw; clear hSw; go_simp; with_reducible rfl
      simp only [Act.put, List.setIfInBounds_toArray, List.set_cons_zero, List.set_cons_succ]
      refine wpAnyH_take (i := 11) (v := ?va65) (by simp; rfl) (by kernel_rfl) (by kernel_rfl) (by kernel_rfl) (fun _ _ _ h => h) (Or.inl ⟨by rfl, ?ya65⟩) hHeld ?ra65
      case ya65 => intro w hSw; clear hSw; go_simp; with_reducible rfl
      simp only [Act.put, List.setIfInBounds_toArray, List.set_cons_zero, List.set_cons_succ]
      refine wpAnyH_ready (rs := [13]) (by kernel_rfl) (by simp) ?_
      refine AllReadyH.cons (by simp; rfl) (fun Kc hKc => ?_) AllReadyH.nil
      rw [if_pos (by rfl)]
      refine run_store_is 87 rfl rfl rfl (R.RAt.store R.size37 HQv22.out R.rec0_len HXL.out) ?_
      simp only [Act.put]
      have HBv23 : Hid (Below w0.heap.size w0 (v22.setRow v0.heap.size (R.rcells X.1).toArray)) := below_setRow HBv22.out HZb.out _
      have HQv23 : Hid (R.RAt 87 (v22.setRow v0.heap.size (R.rcells X.1).toArray) v0.heap.size X.1) := R.RAt.stored HQv22.out _
      have HPv23 : Hid (R.RAt 62 (v22.setRow v0.heap.size (R.rcells X.1).toArray) u.heap.size X.1) := R.RAt.other HPv22.out _ (Nat.ne_of_lt HN.out)
      clear HBv22 HQv22 HPv22 HN hHeld
      generalize v22.setRow v0.heap.size (R.rcells X.1).toArray = v23 at *
      refine hKc.out _ _ HBv23.out (fun hHeld => ?_)
      clear hKc Kc
      refine wpAnyH_take (i := 14) (v := ?va66) (by simp; rfl) (by kernel_rfl) (by kernel_rfl) (by kernel_rfl) (fun _ _ _ h => h) (Or.inl ⟨by rfl, ?ya66⟩) hHeld ?ra66
      case ya66 => intro w hSw; clear hSw; go_simp; with_reducible rfl
      simp only [Act.put, List.setIfInBounds_toArray, List.set_cons_zero, List.set_cons_succ]
      clear hHeld
      refine wpAnyH_done (by kernel_rfl) (NoPanic.normal ?_) _
      have QE : Hid (∀ w, (binOp .eql 87 (.agg (R.rcells X.1).toArray) (.agg (R.rcells X.1).toArray)).run Tryz.prog w = .ok (.bool true) w) := fun w => by rw [R.eql37 w _ _ HXL.out HXL.out, R.recB_same]
      go_wp2_with fail
      refine wp_region_noPanic ?_
      refine wp_region_held_drew (S := fun w' => Below v23.heap.size v23 w') (by kernel_rfl) (below_drawn 1) (fun hHeld => ?_)
      have Dp : Hid (Below v23.heap.size v23 v23.drew) := hHeld
      generalize v23.drew = wp at *
      refine wpAnyH_take (i := 0) (v := ?va67) (by simp; rfl) (by kernel_rfl) (by kernel_rfl) (by kernel_rfl) (fun _ _ _ h => h) (Or.inl ⟨by rfl, ?ya67⟩) hHeld ?ra67
      case ya67 => intro w hSw; clear hSw; go_simp; with_reducible rfl
      simp only [Act.put, List.setIfInBounds_toArray, List.set_cons_zero, List.set_cons_succ]
      refine wpAnyH_take (i := 1) (v := ?va68) (by simp; rfl) (by kernel_rfl) (by kernel_rfl) (by kernel_rfl) (fun _ _ _ h => h) (Or.inl ⟨by rfl, ?ya68⟩) hHeld ?ra68
      case ya68 => intro w hSw; clear hSw; go_simp; with_reducible rfl
      simp only [Act.put, List.setIfInBounds_toArray, List.set_cons_zero, List.set_cons_succ]
      refine wpAnyH_take (i := 2) (v := ?va69) (by simp; rfl) (by kernel_rfl) (by kernel_rfl) (by kernel_rfl) (fun _ _ _ h => h) (Or.inl ⟨by rfl, ?ya69⟩) hHeld ?ra69
      case ya69 => intro w hSw; clear hSw; go_simp; with_reducible rfl
      simp only [Act.put, List.setIfInBounds_toArray, List.set_cons_zero, List.set_cons_succ]
      refine wpAnyH_take (i := 3) (v := ?va70) (by simp; rfl) (by kernel_rfl) (by kernel_rfl) (by kernel_rfl) (fun _ _ _ h => h) (Or.inl ⟨by rfl, ?ya70⟩) hHeld ?ra70
      case ya70 => intro w hSw; clear hSw; go_simp; with_reducible rfl
      simp only [Act.put, List.setIfInBounds_toArray, List.set_cons_zero, List.set_cons_succ]
      refine wpAnyH_take (i := 4) (v := _) (by simp; rfl) (by kernel_rfl) (by kernel_rfl) (by kernel_rfl) (fun _ _ _ h => h) (yieldsIf_load_mid (by rfl) 62 (.tmp 7) rfl u.heap.size 0 rfl (R.rcells X.1) _ (fun _ h => R.RAt.range (R.RAt.later HPv23.out h)) Tryz.underlying62 rfl (by rw [R.size31, R.rcells_len _ HXL.out])) hHeld ?_
      simp only [Act.put, List.setIfInBounds_toArray, List.set_cons_zero, List.set_cons_succ]
      refine wpAnyH_take (i := 6) (v := _) (by simp; rfl) (by kernel_rfl) (by kernel_rfl) (by kernel_rfl) (fun _ _ _ h => h) (yieldsIf_load_mid (by rfl) 87 (.tmp 9) rfl v0.heap.size 0 rfl (R.rcells X.1) _ (fun _ h => R.RAt.range (R.RAt.later HQv23.out h)) Tryz.underlying87 rfl (by rw [R.size37, R.rcells_len _ HXL.out])) hHeld ?_
      simp only [Act.put, List.setIfInBounds_toArray, List.set_cons_zero, List.set_cons_succ]
      refine wpAnyH_ready (rs := [5]) (by kernel_rfl) (by simp) ?_
      refine AllReadyH.cons (by simp; rfl) (fun Kc hKc => ?_) AllReadyH.nil
      go_simp
      refine (R.plain_any X.1 HXL.out wp).mono ?_
      rintro r3 wq ⟨rfl, bq⟩
      have Dq : Hid (Below v23.heap.size v23 wq) := below_then Dp.out bq
      clear bq Dp hHeld
      refine hKc.out _ _ Dq.out (fun hHeld => ?_)
      clear hKc Kc
      refine wpAnyH_take (i := 7) (v := _) (by simp; rfl) (by kernel_rfl) (by kernel_rfl) (by kernel_rfl) (fun _ _ _ h => h) (yields_eql_is (by rfl) 87 rfl rfl rfl R.eqg37 QE.out) hHeld ?_
      simp only [Act.put, List.setIfInBounds_toArray, List.set_cons_zero, List.set_cons_succ]
      refine wpAnyH_take (i := 8) (v := ?va71) (by simp; rfl) (by kernel_rfl) (by kernel_rfl) (by kernel_rfl) (fun _ _ _ h => h) (Or.inl ⟨by rfl, ?ya71⟩) hHeld ?ra71
      case ya71 => intro w hSw; clear hSw; go_simp; with_reducible rfl
      simp only [Act.put, List.setIfInBounds_toArray, List.set_cons_zero, List.set_cons_succ]
      refine wpAnyH_take (i := 9) (v := ?va72) (by simp; rfl) (by kernel_rfl) (by kernel_rfl) (by kernel_rfl) (fun _ _ _ h => h) (Or.inl ⟨by rfl, ?ya72⟩) hHeld ?ra72
      case ya72 => intro w hSw; clear hSw; go_simp; with_reducible rfl
      simp only [Act.put, List.setIfInBounds_toArray, List.set_cons_zero, List.set_cons_succ]
      clear hHeld
      refine wpAnyH_done (by kernel_rfl) (NoPanic.normal ?_) _
      have HQz : Hid (Sq wq B P 2 (k + 1)) := ((HQ0.out.later (below_then HBv23.out Dq.out))).more (Nat.le_succ _)
      have HBz : Hid (Below B w wq) := (below_then HB0.out (below_then HBv23.out Dq.out)).mono hB
      clear HQv23 HPv23 HBv23 Dq QE HQ0 HB0 HX HXL
      go_wp2_with fail
      refine (HQz.out.tells l2 (by omega)).mono ?_
      rintro r9 w9 ⟨rfl, b9⟩
      have HQ9 : Hid (Sq w9 B P 2 (k + 1)) := HQz.out.later b9
      have HB9 : Hid (Below B w w9) := HBz.out.trans (b9.mono HQz.out.B)
      clear b9 HQz HBz
      go_wp2_with fail
      go_ret
      exact ⟨rfl, HQ9.out, HB9.out⟩
end Go.Proofs.YtmcpjokbkkfgfaaGreatDoor
