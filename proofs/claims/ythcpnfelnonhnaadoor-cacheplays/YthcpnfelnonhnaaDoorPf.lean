/-
  Layer 17: lay.
-/
import Derived.Test.YthcpnfelnonhnaaDoorPe
namespace Go.Proofs.YthcpnfelnonhnaaDoor
open Go.RowKit

section
variable {P : Program}
theorem step_store_is {ops : Array Oper} {o : Oper} {a : Act} {w w' : World} {K : Act → World → Prop} {Q : Exit → Act → World → Prop} {E : Prop}
    (hg : o.guard = none) (ty : TypeId) {x y : Operand} (ho : o.op = .store ty x y) {p v : Value} (hx : a.eval x = p) (hy : a.eval y = v) (hr : (Instr.storeAt ty p v).run P w = .ok () w') (hK : K (a.put o.dst undef) w') :
    if Region.wanted o (yielded ops a.tmps) = true then Oper.wp P o a w K Q else E := by
  have hw : Region.wanted o (yielded ops a.tmps) = true := by simp [Region.wanted, hg]
  rw [if_pos hw]
  have hrun : (execOp a.eval o).run P w = .ok .skip w' := by unfold execOp; simp only [ho, hx, hy, Sem.run_bind, hr, Result.andThen_ok, Sem.run_pure]
  unfold Oper.wp
  rw [hrun]
  exact hK
theorem step_slice1_is {ops : Array Oper} {o : Oper} {a : Act} {w w' : World} {K : Act → World → Prop} {Q : Exit → Act → World → Prop} {E : Prop}
    (hg : o.guard = none) (ty : TypeId) {x : Operand} (ho : o.op = .buildSlice ty 1 #[(0, x)]) {u v : Value} (hx : a.eval x = u) (hr : (Instr.buildSlice ty 1 #[(0, u)]).run P w = .ok v w') (hK : K (a.put o.dst v) w') :
    if Region.wanted o (yielded ops a.tmps) = true then Oper.wp P o a w K Q else E := by
  have hw : Region.wanted o (yielded ops a.tmps) = true := by simp [Region.wanted, hg]
  rw [if_pos hw]
  have e : (#[(0, x)] : Array (Nat × Operand)).map (fun (i, y) => (i, a.eval y)) = #[(0, u)] := by simp [hx]
  have hrun : (execOp a.eval o).run P w = .ok (.value v) w' := by unfold execOp; simp only [ho]; rw [e]; simp only [Sem.run_bind, hr, Result.andThen_ok, Sem.run_pure]
  unfold Oper.wp
  rw [hrun]
  exact hK
theorem yields_load_is {ops : Array Oper} {S : World → Prop} {o : Oper} {a : Act} (hw : Region.wanted o (yielded ops a.tmps) = true) (ty : TypeId) {x : Operand} (ho : o.op = .load ty x) {p v : Value} (hx : a.eval x = p) (hrun : ∀ w, S w → (Instr.loadAt ty p).run P w = .ok v w) : YieldsIf P ops S o v a :=
  .inl ⟨hw, fun w hS => by unfold execOp; simp only [ho, hx, Sem.run_bind, hrun w hS, Result.andThen_ok, Sem.run_pure]⟩
end
/-- behind a call that writes into a cache -/
structure Wrt (w w' : World) (Q : Nat) (n : Int) (ve ve' : Value) (L' : List En) (nx' : Int) : Prop where
  at' : CAt w' Q n ve' L' nx'
  kept : Kept (fun k => k = Q ∨ ve.ownBlock = some k) w w'
  new : ∀ g, ve'.ownBlock = some g → ve.ownBlock = some g ∨ w.heap.size ≤ g
section
variable {w w' : World} {Q : Nat} {n nx : Int} {ve : Value} {L : List En}
theorem Wrt.refl (h : CAt w Q n ve L nx) : Wrt w w Q n ve ve L nx := ⟨h, Kept.refl _ _, fun _ h => .inl h⟩
theorem Wrt.below (h : CAt w Q n ve L nx) (hb : Below w.heap.size w w') : Wrt w w' Q n ve ve L nx := ⟨h.later hb, Kept.of_below _ hb, fun _ h => .inl h⟩
theorem Wrt.trans {w1 w2 : World} {v1 v2 : Value} {L1 L2 : List En} {n1 n2 : Int} (h : Wrt w w1 Q n ve v1 L1 n1) (k : Wrt w1 w2 Q n v1 v2 L2 n2) : Wrt w w2 Q n ve v2 L2 n2 :=
  ⟨k.at', h.kept.trans k.kept (fun x hx e => e.elim .inl fun e => (h.new x e).elim .inr fun e => by omega), fun g hg => (k.new g hg).elim (fun e => h.new g e) fun e => .inr (Nat.le_trans h.kept.size e)⟩
theorem Wrt.later {w1 w2 : World} {v1 : Value} {L1 : List En} {n1 : Int} (h : Wrt w w1 Q n ve v1 L1 n1) (hb : Below w1.heap.size w1 w2) : Wrt w w2 Q n ve v1 L1 n1 := h.trans (Wrt.below h.at' hb)
theorem Wrt.ahead {w0 w1 : World} {v1 : Value} {L1 : List En} {n1 : Int} (hb : Below w0.heap.size w0 w) (h : Wrt w w1 Q n ve v1 L1 n1) : Wrt w0 w1 Q n ve v1 L1 n1 :=
  ⟨h.at', (Kept.of_below _ hb).trans h.kept (fun _ _ e => e), fun g hg => (h.new g hg).elim .inl fun e => .inr (Nat.le_trans hb.size e)⟩
/-- another row of entries is laid into its cell -/
theorem CAt.lay {W : World} {v' : Value} {L' : List En} (st : W.heap[Q]? = some (.cells #[.int .i64 n, ve, .int .u64 nx] 69 (0, 0))) (hr : EOwn 57 W 0 v' L') : CAt (W.setCell ⟨Q, 1, none⟩ v') Q n v' L' nx := by
  refine ⟨?_, O.own_far hr (Kept.setCell (w := W) Q 1 v') (fun g hg e => O.own_not hr st (by decide) (by rw [hg]; exact congrArg some e))⟩
  rw [setCell_eq_setRow W Q 1 _ 69 (0, 0) v' st]
  exact setRow_heap W Q _ _ 69 _ st
/-- another next position -/
theorem CAt.next {W : World} {nx' : Int} (h : CAt W Q n ve L nx) : CAt (W.setCell ⟨Q, 2, none⟩ (.int .u64 nx')) Q n ve L nx' := by
  refine ⟨?_, O.own_far h.row (Kept.setCell (w := W) Q 2 _) (fun g hg e => h.ne (by rw [hg]; exact congrArg some e))⟩
  rw [setCell_eq_setRow W Q 2 _ 69 (0, 0) _ h.st]
  exact setRow_heap W Q _ _ 69 _ h.st
/-- a row inserted or cut, then laid into its cell -/
theorem Wrt.row {w1 w2 : World} {v' : Value} {L' : List En} (h : CAt w1 Q n ve L nx) (hb : Below w.heap.size w w1) (hO : EOwn 57 w2 0 v' L') (hK : Kept (fun k => ve.ownBlock = some k) w1 w2) (hN : v'.ownBlock = ve.ownBlock ∨ v'.ownBlock = some w1.heap.size) : Wrt w (w2.setCell ⟨Q, 1, none⟩ v') Q n ve v' L' nx := by
  have st2 := (hK.block Q h.lt h.ne).trans h.st
  refine ⟨CAt.lay st2 hO, ((Kept.of_below _ hb).trans hK (fun x _ e => .inr e)).trans (Kept.setCell Q 1 v') (fun x _ e => .inl e), fun g hg => ?_⟩
  rcases hN with e | e
  · exact .inl (e ▸ hg)
  · rw [e] at hg; cases hg; exact .inr hb.size
theorem Wrt.cells {w1 w2 : World} (h : CAt w1 Q n ve L nx) (hK : Kept (fun k => ve.ownBlock = some k) w1 w2) : w2.cell? ⟨Q, 1, none⟩ = some ve ∧ w2.frozen? ⟨Q, 1, none⟩ = false := by
  have st2 := (hK.block Q h.lt h.ne).trans h.st
  exact ⟨by rw [cell_of_row _ Q 1 _ 69 (0, 0) st2]; rfl, by simp [World.frozen?, st2]⟩
set_option maxHeartbeats 2000000 in
set_option maxRecDepth 100000 in
theorem lay_call (h : CAt w Q n ve L nx) (hk : Okc n L nx) {x : En} (hx : x.Wf) : Calls Tryd.prog 32 #[.pointer (some ⟨Q, 0, none⟩), .agg (ecells x).toArray] w fun e w' => e = .returned (.tuple #[]) ∧ ∃ ve', Wrt w w' Q n ve ve' (layE L x) nx := by
  have hfew := hk.few
  obtain ⟨w1, hw1⟩ : ∃ w1, w1 = w.alloc (.cells (ecells x).toArray 57) := ⟨_, rfl⟩
  have B1 : Below w.heap.size w w1 := by rw [hw1]; exact below_alloc w _
  have HV1 : Hid (LAt 57 w1 w.heap.size (ecells x)) := by rw [hw1]; exact LAt.new _ _ _
  have HA1 : Hid (CAt w1 Q n ve L nx) := h.later B1
  have HB1 : Hid (Below w.heap.size w w1) := B1
  have HNE : Hid (¬ ve.ownBlock = some w.heap.size) := fun e => by have := (h.row.lt _ e).2; omega
  have HQN : Hid (Q < w.heap.size) := h.lt
  have HK : Hid (Okc n L nx) := hk
  have HX : Hid x.Wf := hx
  have k0 : w1.cell? ⟨w.heap.size, 0, none⟩ = some (.int .i64 x.b) := LAt.cell HV1.out 0
  have hw1' := hw1.symm
  clear B1 h hk hx hw1
  go_enter Tryd.func32, Tryd.ntmps32
  go_wp2_with fail
  refine (find_at HA1.out HK.out x.b).mono ?_
  rintro e w2 ⟨rfl, bn⟩
  have A2 : CAt w2 Q n ve L nx := HA1.out.later bn
  have HV2 : Hid (LAt 57 w2 w.heap.size (ecells x)) := LAt.later HV1.out bn
  have HB2 : Hid (Below w.heap.size w w2) := below_then HB1.out bn
  clear HV1 HA1 HB1 bn hw1' k0
  have hpl0 := ple_le L x.b
  cases hat : isE L x.b with
  | true =>
    obtain ⟨y, hy, hyb⟩ := isE_some hat
    have hpl : ple L x.b < L.length := (List.getElem?_eq_some_iff.1 hy).1
    have HPT : Hid (L.take (ple L x.b) ++ [x] ++ L.drop (ple L x.b + 1) = layE L x) := by
      show _ = _
      rw [← lay_at HK.out.up hat, List.set_eq_take_append_cons_drop, if_pos hpl]; simp
    obtain ⟨p, c, rfl, hc, hg⟩ := O.own_form A2.row
    obtain ⟨g, rfl⟩ := hg (by omega)
    have rD : EOwn 57 w2.drew 0 (.slice (some ⟨g, 0, none⟩) L.length c) L := A2.row
    obtain ⟨W', hst, ho, hgr⟩ := EOwn.put etC rD HK.out.wf x HX.out (ple L x.b) hpl
    have HST : Hid ((Instr.storeAt 57 (.pointer (some ⟨g, ple L x.b * 34, none⟩)) (.agg (ecells x).toArray)).run Tryd.prog w2.drew = .ok () W') := hst
    have hb2 : Below w.heap.size w w2.drew := below_then HB2.out (show Below w2.heap.size w2 w2.drew from below_drawn 1)
    have kg := O.kept_grown (v := .slice (some ⟨g, 0, none⟩) L.length c) hgr
    have AD : CAt w2.drew Q n (.slice (some ⟨g, 0, none⟩) L.length c) L nx := A2.later (show Below w2.heap.size w2 w2.drew from below_drawn 1)
    have HFIN : Hid (Wrt w W' Q n (.slice (some ⟨g, 0, none⟩) L.length c) (.slice (some ⟨g, 0, none⟩) L.length c) (layE L x) nx) := by
      refine ⟨⟨(kg.block Q AD.lt AD.ne).trans AD.st, ?_⟩, (Kept.of_below _ hb2).trans kg (fun y _ e => .inr e), fun g' hg' => .inl hg'⟩
      rw [← HPT.out]; exact ho
    have HS1 : Hid (w2.drew.cell? ⟨Q, 1, none⟩ = some (.slice (some ⟨g, 0, none⟩) L.length c) ∧ LAt 57 w2.drew w.heap.size (ecells x)) := ⟨A2.c1, HV2.out⟩
    have HS2 : Hid (W'.cell? ⟨Q, 1, none⟩ = some (.slice (some ⟨g, 0, none⟩) L.length c) ∧ LAt 57 W' w.heap.size (ecells x)) := ⟨HFIN.out.at'.c1, (kg.block _ (LAt.lt HV2.out) HNE.out).trans HV2.out⟩
    have i1 : ((ple L x.b : Nat) : Int) < (L.length : Int) := by omega
    have i0 : (0 : Int) ≤ ((ple L x.b : Nat) : Int) := by omega
    clear hst ho hgr rD hy hyb A2 HPT HV2 HB2 kg AD hb2 HNE hpl0 hpl
    generalize ple L x.b = k at *
    go_wp2_with fail
    refine wp_region_noPanic ?_
    refine wp_region_held_drew (S := fun W => W.cell? ⟨Q, 1, none⟩ = some (.slice (some ⟨g, 0, none⟩) L.length c) ∧ LAt 57 W w.heap.size (ecells x)) (by kernel_rfl) HS1.out (fun hHeld => ?_)
    refine wpAnyH_take (i := 0) (v := ?va1) (by simp; rfl) (by kernel_rfl) (by kernel_rfl) (by kernel_rfl) (fun _ _ _ h => h) (Or.inl ⟨by rfl, ?ya1⟩) hHeld ?ra1
    case ya1 => intro w hSw; clear hSw; go_simp; with_reducible rfl
    simp only [Act.put, List.setIfInBounds_toArray, List.set_cons_zero, List.set_cons_succ]
    refine wpAnyH_take (i := 1) (v := ?va2) (by simp; rfl) (by kernel_rfl) (by kernel_rfl) (by kernel_rfl) (fun _ _ _ h => h) (Or.inl ⟨by rfl, ?ya2⟩) hHeld ?ra2
    case ya2 => intro w hSw; clear hSw; go_simp; with_reducible rfl
    simp only [Act.put, List.setIfInBounds_toArray, List.set_cons_zero, List.set_cons_succ]
    refine wpAnyH_take (i := 2) (v := ?va3) (by simp; rfl) (by kernel_rfl) (by kernel_rfl) (by kernel_rfl) (fun _ _ _ h => h) (Or.inl ⟨by rfl, ?ya3⟩) hHeld ?ra3
    case ya3 => intro w hSw; clear hSw; go_simp; with_reducible rfl
    simp only [Act.put, List.setIfInBounds_toArray, List.set_cons_zero, List.set_cons_succ]
    refine wpAnyH_take (i := 3) (v := ?va4) (by simp; rfl) (by kernel_rfl) (by kernel_rfl) (by kernel_rfl) (fun _ _ _ h => h) (Or.inl ⟨by rfl, ?ya4⟩) hHeld ?ra4
    case ya4 => intro w hSw; have z := hSw.1; clear hSw; go_simp; with_reducible rfl
    simp only [Act.put, List.setIfInBounds_toArray, List.set_cons_zero, List.set_cons_succ]
    refine wpAnyH_take (i := 4) (v := ?va5) (by simp; rfl) (by kernel_rfl) (by kernel_rfl) (by kernel_rfl) (fun _ _ _ h => h) (Or.inl ⟨by rfl, ?ya5⟩) hHeld ?ra5
    case ya5 => intro w hSw; clear hSw; go_simp; with_reducible rfl
    simp only [Act.put, List.setIfInBounds_toArray, List.set_cons_zero, List.set_cons_succ]
    refine wpAnyH_take (i := 5) (v := _) (by simp; rfl) (by kernel_rfl) (by kernel_rfl) (by kernel_rfl) (fun _ _ _ h => h) (yields_load_is (x := .tmp 3) (p := .pointer (some ⟨w.heap.size, 0, none⟩)) (v := .agg (ecells x).toArray) (by rfl) 57 rfl rfl (fun W hW => LAt.loadE etC hW.2 HX.out.len)) hHeld ?_
    simp only [Act.put, List.setIfInBounds_toArray, List.set_cons_zero, List.set_cons_succ]
    refine wpAnyH_take (i := 6) (v := ?va6) (by simp; rfl) (by kernel_rfl) (by kernel_rfl) (by kernel_rfl) (fun _ _ _ h => h) (Or.inl ⟨by rfl, ?ya6⟩) hHeld ?ra6
    case ya6 => intro w hSw; clear hSw; go_simp; with_reducible rfl
    simp only [Act.put, List.setIfInBounds_toArray, List.set_cons_zero, List.set_cons_succ]
    refine wpAnyH_ready (rs := [7]) (by kernel_rfl) (by simp) ?_
    refine AllReadyH.cons (by simp; rfl) (fun Kc hKc => ?_) AllReadyH.nil
    refine step_store_is rfl 57 rfl rfl rfl HST.out ?_
    refine hKc.out _ _ HS2.out (fun hHeld => ?_)
    clear hKc Kc hHeld
    simp only [Act.put]
    refine wpAnyH_done (by kernel_rfl) (NoPanic.normal ?_) _
    go_wp2
    refine bodyPost_ret (results_none rfl _ _ _) rfl ?_
    exact ⟨rfl, _, HFIN.out⟩
  | false =>
    have HPT : Hid (L.take (ple L x.b) ++ [x] ++ L.drop (ple L x.b) = layE L x) := lay_no HK.out.up hat
    have AD : CAt w2.drew Q n ve L nx := A2.later (show Below w2.heap.size w2 w2.drew from below_drawn 1)
    obtain ⟨w3, hw3⟩ : ∃ w3, w3 = w2.drew.alloc (.cells (ecells x).toArray 57) := ⟨_, rfl⟩
    have HBS : Hid ((Instr.buildSlice 60 1 #[(0, .agg (ecells x).toArray)]).run Tryd.prog w2.drew = .ok (.slice (some ⟨w2.heap.size, 0, none⟩) 1 1) w3) := by rw [hw3]; exact build_en etC w2.drew x HX.out.len
    have b23 : Below w2.drew.heap.size w2.drew w3 := by rw [hw3]; exact below_alloc w2.drew _
    have l3 : LAt 57 w3 w2.heap.size (ecells x) := by rw [hw3]; exact LAt.new _ w2.drew _
    have A3 : CAt w3 Q n ve L nx := AD.later b23
    have HA3 : Hid (CAt w3 Q n ve L nx) := A3
    have HV3 : Hid (LAt 57 w3 w.heap.size (ecells x)) := LAt.later (w := w2.drew) HV2.out b23
    have HB3 : Hid (Below w.heap.size w w3) := below_then HB2.out (below_then (show Below w2.heap.size w2 w2.drew from below_drawn 1) b23)
    have hins := insert_at A3.row HK.out.wf HX.out l3 (fun e => by have := (AD.row.lt _ e).2; simp at this) hpl0 (by omega) (Nat.zero_le _)
    have HINS : Hid (Calls Tryd.prog 38 #[ve, .int .i64 ((ple L x.b : Nat) : Int), .slice (some ⟨w2.heap.size, 0, none⟩) 1 1] w3 fun e w' => ∃ v', e = .returned v' ∧ EOwn 57 w' 0 v' (L.take (ple L x.b) ++ [x] ++ L.drop (ple L x.b)) ∧ Kept (fun k => ve.ownBlock = some k) w3 w' ∧ (v'.ownBlock = ve.ownBlock ∨ v'.ownBlock = some w3.heap.size)) := hins
    have HS1 : Hid (w2.drew.cell? ⟨Q, 1, none⟩ = some ve ∧ LAt 57 w2.drew w.heap.size (ecells x)) := ⟨A2.c1, HV2.out⟩
    have HS3 : Hid (w3.cell? ⟨Q, 1, none⟩ = some ve ∧ LAt 57 w3 w.heap.size (ecells x)) := ⟨A3.c1, HV3.out⟩
    obtain ⟨g2, hg2⟩ : ∃ g2, g2 = w2.heap.size := ⟨_, rfl⟩
    rw [← hg2] at HINS HBS
    have mixed : Tryd.prog.follows Departure.mixedOrders = true := by kernel_rfl
    clear hw3 b23 l3 A3 A2 AD hins HB2 HV2 hg2
    go_wp2_with fail
    refine wp_region_noPanic ?_
    refine wp_region_last 11 (fun W => W.cell? ⟨Q, 1, none⟩ = some ve ∧ LAt 57 W w.heap.size (ecells x)) mixed ?_
    have hHeld := HS1.out
    refine wpAnyL_take (i := 0) (v := ?va7) (by simp; rfl) (by kernel_rfl) (by kernel_rfl) (by kernel_rfl) (by kernel_rfl) (fun _ _ _ h => h) (Or.inl ⟨by rfl, ?ya7⟩) hHeld ?ra7
    case ya7 => intro w hSw; clear hSw; go_simp; with_reducible rfl
    simp only [Act.put, List.setIfInBounds_toArray, List.set_cons_zero, List.set_cons_succ]
    refine wpAnyL_take (i := 1) (v := ?va8) (by simp; rfl) (by kernel_rfl) (by kernel_rfl) (by kernel_rfl) (by kernel_rfl) (fun _ _ _ h => h) (Or.inl ⟨by rfl, ?ya8⟩) hHeld ?ra8
    case ya8 => intro w hSw; clear hSw; go_simp; with_reducible rfl
    simp only [Act.put, List.setIfInBounds_toArray, List.set_cons_zero, List.set_cons_succ]
    refine wpAnyL_take (i := 2) (v := ?va9) (by simp; rfl) (by kernel_rfl) (by kernel_rfl) (by kernel_rfl) (by kernel_rfl) (fun _ _ _ h => h) (Or.inl ⟨by rfl, ?ya9⟩) hHeld ?ra9
    case ya9 => intro w hSw; clear hSw; go_simp; with_reducible rfl
    simp only [Act.put, List.setIfInBounds_toArray, List.set_cons_zero, List.set_cons_succ]
    refine wpAnyL_take (i := 3) (v := ?va10) (by simp; rfl) (by kernel_rfl) (by kernel_rfl) (by kernel_rfl) (by kernel_rfl) (fun _ _ _ h => h) (Or.inl ⟨by rfl, ?ya10⟩) hHeld ?ra10
    case ya10 => intro w hSw; clear hSw; go_simp; with_reducible rfl
    simp only [Act.put, List.setIfInBounds_toArray, List.set_cons_zero, List.set_cons_succ]
    refine wpAnyL_take (i := 4) (v := ?va11) (by simp; rfl) (by kernel_rfl) (by kernel_rfl) (by kernel_rfl) (by kernel_rfl) (fun _ _ _ h => h) (Or.inl ⟨by rfl, ?ya11⟩) hHeld ?ra11
    case ya11 => intro w hSw; have z := hSw.1; clear hSw; go_simp; with_reducible rfl
    simp only [Act.put, List.setIfInBounds_toArray, List.set_cons_zero, List.set_cons_succ]
    refine wpAnyL_take (i := 5) (v := ?va12) (by simp; rfl) (by kernel_rfl) (by kernel_rfl) (by kernel_rfl) (by kernel_rfl) (fun _ _ _ h => h) (Or.inl ⟨by rfl, ?ya12⟩) hHeld ?ra12
    case ya12 => intro w hSw; clear hSw; go_simp; with_reducible rfl
    simp only [Act.put, List.setIfInBounds_toArray, List.set_cons_zero, List.set_cons_succ]
    refine wpAnyL_take (i := 6) (v := _) (by simp; rfl) (by kernel_rfl) (by kernel_rfl) (by kernel_rfl) (by kernel_rfl) (fun _ _ _ h => h) (yields_load_is (x := .tmp 3) (p := .pointer (some ⟨w.heap.size, 0, none⟩)) (v := .agg (ecells x).toArray) (by rfl) 57 rfl rfl (fun W hW => LAt.loadE etC hW.2 HX.out.len)) hHeld ?_
    simp only [Act.put, List.setIfInBounds_toArray, List.set_cons_zero, List.set_cons_succ]
    refine wpAnyL_ready (rs := [7]) (by kernel_rfl) (by simp) ?_
    refine AllReadyL.cons (by simp; rfl) (fun Kc hKc => ?_) AllReadyL.nil
    refine step_slice1_is (by rfl) 60 rfl rfl HBS.out ?_
    refine hKc.out _ _ (fun _ => HS3.out) ?_
    clear hHeld
    have hHeld := HS3.out
    clear hKc Kc
    simp only [Act.put, List.setIfInBounds_toArray, List.set_cons_zero, List.set_cons_succ]
    refine wpAnyL_ready (rs := [8]) (by kernel_rfl) (by simp) ?_
    refine AllReadyL.cons (by simp; rfl) (fun Kc hKc => ?_) AllReadyL.nil
    go_simp
    refine HINS.out.mono ?_
    rintro e w4 ⟨v', rfl, hO, hK, hN⟩
    obtain ⟨p4, m4, c4, rfl⟩ : ∃ p4 m4 c4, v' = .slice p4 m4 c4 := by obtain ⟨p4, c4, e4, -, -⟩ := O.own_form hO; exact ⟨p4, _, c4, e4⟩
    have HFIN : Hid (Wrt w (w4.setCell ⟨Q, 1, none⟩ (.slice p4 m4 c4)) Q n ve (.slice p4 m4 c4) (layE L x) nx) := Wrt.row HA3.out HB3.out (by rw [← HPT.out]; exact hO) hK hN
    have HQ : Hid (w4.cell? ⟨Q, 1, none⟩ = some ve ∧ w4.frozen? ⟨Q, 1, none⟩ = false) := Wrt.cells HA3.out hK
    have HS4 : Hid (w4.cell? ⟨Q, 1, none⟩ = some ve ∧ LAt 57 w4 w.heap.size (ecells x)) := ⟨HQ.out.1, (hK.block _ (LAt.lt HV3.out) HNE.out).trans HV3.out⟩
    refine hKc.out _ _ (fun _ => HS4.out) ?_
    clear hHeld
    have hHeld := HS4.out
    clear hKc Kc hO hK hN
    refine wpAnyL_ready (rs := [9]) (by kernel_rfl) (by simp) ?_
    refine AllReadyL.cons (by simp; rfl) (fun Kc hKc => ?_) AllReadyL.nil
    go_simp
    refine hKc.out _ _ (fun _ => HS4.out) ?_
    clear hHeld
    have hHeld := HS4.out
    clear hKc Kc
    refine wpAnyL_take (i := 10) (v := ?va13) (by simp; rfl) (by kernel_rfl) (by kernel_rfl) (by kernel_rfl) (by kernel_rfl) (fun _ _ _ h => h) (Or.inl ⟨by rfl, ?ya13⟩) hHeld ?ra13
    case ya13 => intro w hSw; clear hSw; go_simp; with_reducible rfl
    simp only [Act.put, List.setIfInBounds_toArray, List.set_cons_zero, List.set_cons_succ]
    refine wpAnyL_ready (rs := [11]) (by kernel_rfl) (by simp) ?_
    refine AllReadyL.cons (by simp; rfl) (fun Kc hKc => ?_) AllReadyL.nil
    have q1 := HQ.out.1
    have q2 := HQ.out.2
    go_simp
    refine hKc.out _ _ (fun h => absurd rfl h) ?_
    clear hKc Kc hHeld q1 q2
    refine wpAnyL_done (by kernel_rfl) (NoPanic.normal ?_) _
    go_wp2
    go_end0
    exact ⟨rfl, _, HFIN.out⟩
end
end Go.Proofs.YthcpnfelnonhnaaDoor
