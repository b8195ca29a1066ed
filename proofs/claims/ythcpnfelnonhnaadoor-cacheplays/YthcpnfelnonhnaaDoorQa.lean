/-
  Layer 17: the laws' own plain, and Same.
-/
import Derived.Test.YthcpnfelnonhnaaDoorPk
import Derived.Test.YthcpnfelnonhnaaDoorPh
namespace Go.Proofs.YthcpnfelnonhnaaDoor
open Go.RowKit

section
variable {P : Program} {ops : Array Oper} {S : World → Prop} {o : Oper} {a : Act}
theorem yields_build_is (hgd : Region.wanted o (yielded ops a.tmps) = true) (ty : TypeId) {ps : Array (Nat × Operand)} (ho : o.op = .build ty ps) {vs : List (Nat × Value)} {v : Value} (hx : ps.toList.map (fun (i, x) => (i, a.eval x)) = vs) (hrun : ∀ w, (Instr.build ty vs.toArray).run P w = .ok v w) : YieldsIf P ops S o v a :=
  .inl ⟨hgd, fun w _ => by unfold execOp; simp only [ho]; rw [show ps.map (fun (i, x) => (i, a.eval x)) = vs.toArray by rw [← hx, ← Array.toList_map]]; simp only [Sem.run_bind, hrun, Result.andThen_ok, Sem.run_pure]⟩
theorem step_slice_is {w w' : World} {K : Act → World → Prop} {Q : Exit → Act → World → Prop} {E : Prop} (hw : Region.wanted o (yielded ops a.tmps) = true) (ty n : Nat) {ps : Array (Nat × Operand)} (ho : o.op = .buildSlice ty n ps) {vs : List (Nat × Value)} {v : Value} (hx : ps.toList.map (fun (i, x) => (i, a.eval x)) = vs) (hrun : (Instr.buildSlice ty n vs.toArray).run P w = .ok v w') (hK : K (a.put o.dst v) w') :
    if Region.wanted o (yielded ops a.tmps) = true then Oper.wp P o a w K Q else E := by
  rw [if_pos hw]
  have hr : (execOp a.eval o).run P w = .ok (.value v) w' := by unfold execOp; simp only [ho]; rw [show ps.map (fun (i, x) => (i, a.eval x)) = vs.toArray by rw [← hx, ← Array.toList_map]]; simp only [Sem.run_bind, hrun, Result.andThen_ok, Sem.run_pure]
  unfold Oper.wp
  rw [hr]
  exact hK
end
/-- two images as a slice -/
theorem build_im2 (w : World) (i j : Im) (hi' : i.v.length = 32) (hj' : j.v.length = 32) : (Instr.buildSlice 45 2 #[(0, .agg (icells i).toArray), (1, .agg (icells j).toArray)]).run Tryd.prog w = .ok (.slice (some ⟨w.heap.size, 0, none⟩) 2 2) (w.alloc (.cells (IC [i, j]).toArray 55)) := by
  obtain ⟨i0, hi, hz0, hz1, hz2⟩ := info_parts infoI
  refine run_buildSlice w 45 55 2 _ _ i0 _ Tryd.underlying45 hi hz0 (by rw [hz1]; decide) (by rw [hz1]; decide) ?_
  rw [hz1]
  have hl : (icells i).length = 33 := icells_len hi'
  have hm : (icells j).length = 33 := icells_len hj'
  have hA : ∀ A : Array Value, A.size = 66 → Instr.fill (fun i => some (i * 33, 33)) A [(0, .agg (icells i).toArray), (1, .agg (icells j).toArray)] = some (IC [i, j]).toArray := by
    intro A hA
    have hAl : A.toList.length = 66 := by rw [← hA]; exact Array.length_toList
    have a0 := part_fill 0 (icells i) A.toList (by omega)
    have a0' : (icells i).toArray.zipIdx.foldl (fun cs x => match x with | (c, j) => cs.setIfInBounds (0 + j) c) A = ((A.toList.take 0 ++ icells i ++ A.toList.drop (0 + (icells i).length))).toArray := a0
    have a1 := part_fill 33 (icells j) (A.toList.take 0 ++ icells i ++ A.toList.drop (0 + (icells i).length)) (by simp only [List.length_append, List.length_take, List.length_drop]; omega)
    have a1' : (icells j).toArray.zipIdx.foldl (fun cs x => match x with | (c, j) => cs.setIfInBounds (33 + j) c) (A.toList.take 0 ++ icells i ++ A.toList.drop (0 + (icells i).length)).toArray = _ := a1
    simp only [Instr.fill, Value.cells, List.size_toArray, Nat.zero_mul, Nat.one_mul]
    rw [if_neg (by simp [hl, hA]), a0', if_neg (by simp [hm, hl, hA]), a1']
    congr 2
    have e0 : A.toList.take 0 ++ icells i = icells i := by simp
    rw [e0, List.take_append_of_le_length (by omega), List.take_of_length_le (by omega), List.drop_append, List.drop_of_length_le (by omega), List.nil_append, List.drop_of_length_le (by simp only [List.length_drop]; omega), List.append_nil]
    simp [IC]
  exact hA _ (by simp)
section
variable {P : Program} {ops : Array Oper} {o : Oper} {a : Act}
theorem step_append_is {w w' : World} {K : Act → World → Prop} {Q : Exit → Act → World → Prop} {E : Prop} (hw : Region.wanted o (yielded ops a.tmps) = true) {s x : Operand} {t ty : TypeId} (ho : o.op = .call { callee := .builtin .append, args := #[s, x], argTypes := #[t, t] }) (hty : o.type = ty) {u1 u2 v : Value} (hs : a.eval s = u1) (hx : a.eval x = u2) (hrun : (Builtin.append_ #[t, t] ty #[u1, u2]).run P w = .ok v w') (hK : K (a.put o.dst v) w') :
    if Region.wanted o (yielded ops a.tmps) = true then Oper.wp P o a w K Q else E := by
  rw [if_pos hw]
  have hr : (execOp a.eval o).run P w = .ok (.value v) w' := by subst hty; simp [execOp, ho, resolve, invoke, builtin, hs, hx, hrun, Result.andThen]
  unfold Oper.wp
  rw [hr]
  exact hK
end
/-- entries appended onto a row of ours, however many -/
theorem app_big {ts te : TypeId} (T : ET ts te) {W : World} {B : Nat} {v : Value} {l0 l : List En} {q : Option Addr} {m c : Nat} (h0 : EOwn te W B v l0) (hw0 : EnsWf l0) (h : EIn W q m l) (hp : 0 < m) (hm : (l0.length + m) * 48 ≤ 140737488355328) (hB : B ≤ W.heap.size) : ∃ q' c' W', (Builtin.append_ #[ts, ts] ts #[v, .slice q m c]).run Tryd.prog W = .ok (.slice q' (l0.length + m) c') W' ∧ EOwn te W' B (.slice q' (l0.length + m) c') (l0 ++ l) ∧ W.grownBy W' v.ownBlock ∧ ((Value.slice q' (l0.length + m) c').ownBlock = v.ownBlock ∨ (Value.slice q' (l0.length + m) c').ownBlock = some W.heap.size) := by
  obtain ⟨i0, hi0, hz0, hz1, hz2⟩ := info_parts T.inf
  have h65 : (140737488355328 : Nat) ≤ maxLen := by decide
  have hwf : EnsWf (l0 ++ l) := fun x hx => (List.mem_append.1 hx).elim (hw0 x) (h.wf x)
  obtain ⟨b, o, e, hr⟩ := h.cells hp
  subst e
  obtain ⟨v', W', hrun, hown', hgrow, -, hat⟩ := run_append_own_at (P := Tryd.prog) W B ts ts te i0 _ 34 48 T.ut hi0 hz0 hz1 hz2 rfl (by decide) v l0.length (EC l0) h0 ⟨b, o, none⟩ m c (EC l) (by rw [EC_len h.wf, h.len]) (fun j u hu => by rw [Addr.add_mid]; exact hr j u hu) (EC_ones l) (by omega) hm hB
  have hown2 : EOwn te W' B v' (l0 ++ l) := by
    rw [EOwn, List.length_append, h.len, EC_append]; exact hown'
  have el : (l0 ++ l).length = l0.length + m := by rw [List.length_append, h.len]
  obtain ⟨q', c', rfl, -, -, -⟩ := EOwn.in hown2 hwf
  rw [el] at hrun hown2 hat
  exact ⟨q', c', W', hrun, hown2, hgrow, hat⟩
theorem one_ein {W : World} {g : Nat} {x : En} {te : TypeId} (h : LAt te W g (ecells x)) (hx : x.Wf) : EIn W (some ⟨g, 0, none⟩) 1 [x] := ⟨rfl, fun y hy => by rw [List.mem_singleton.1 hy]; exact hx, fun _ => ⟨g, 0, rfl, fun j u hj => by rw [Nat.zero_add, LAt.cell h]; simpa [EC] using hj⟩⟩
theorem EIn.len_lt {w : World} {p : Option Addr} {m k : Nat} {l : List En} (h : EIn w p m l) (hk : k < m) : ∃ x, l[k]? = some x ∧ x.Wf := ⟨_, List.getElem?_eq_getElem (by rw [h.len]; exact hk), h.wf _ (List.getElem_mem (by rw [h.len]; exact hk))⟩
theorem EIn.block_lt {w : World} {b o m : Nat} {l : List En} (h : EIn w (some ⟨b, o, none⟩) m l) (h0 : 0 < m) : b < w.heap.size := by
  obtain ⟨b', o', e, hr⟩ := h.cells h0
  cases e
  exact range_lt hr (by rw [EC_len h.wf, h.len]; omega)
section
variable {w : World}
set_option maxHeartbeats 2000000 in
set_option maxRecDepth 100000 in
theorem plain_at {p : Option Addr} {m c : Nat} {l : List En} (hM : EIn w p m l) (hm : m * 48 ≤ 140737488351232) : Calls Tryd.prog 26 #[.slice p m c] w fun e w' => ∃ v, e = .returned v ∧ EOwn 75 w' w.heap.size v l ∧ Below w.heap.size w w' := by
  have HM : Hid (EIn w p m l) := hM
  have HL : Hid (l.length = m) := hM.len
  clear hM
  go_enter Tryd.func26, Tryd.ntmps26
  go_wp2_with fail
  go_loopw [3, 4] (fun v v2 W => ∃ (k : Nat) (p2 : Option Addr) (c2 : Nat), v = .slice p2 k c2 ∧ v2 = .int .i64 (k : Int) ∧ k ≤ m ∧ Hid (EOwn 75 W w.heap.size (.slice p2 k c2) (l.take k)) ∧ Hid (Below w.heap.size w W)) (fun _ v _ => m - (intOf v).toNat)
  case atStart => exact ⟨0, none, 0, rfl, rfl, by omega, (World.ownsRow_nil _ _ _ _ : EOwn 75 w w.heap.size (.slice none 0 0) (l.take 0)), Below.refl _ _⟩
  case round =>
    obtain ⟨k, p2, c2, rfl, rfl, hk, HO, HB⟩ := hrel
    by_cases hlt : k < m
    · obtain ⟨x, hx, hxw⟩ := HM.out.len_lt hlt
      obtain ⟨b1, o1, rfl, -⟩ := HM.out.cells (by omega)
      have hbl := HM.out.block_lt (by omega)
      have hD : Below wr.heap.size wr wr.drew := below_drawn 1
      have hBD : Below w.heap.size w wr.drew := below_then HB.out hD
      have HX : Hid (l[k]? = some x) := hx
      have HXW : Hid x.Wf := hxw
      have HTK : Hid (l.take (k + 1) = l.take k ++ [x]) := take_snocE hx
      have HTL : Hid ((l.take k).length = k) := by show _ = _; rw [List.length_take, HL.out]; omega
      have S1 : EIn wr.drew (some ⟨b1, o1, none⟩) m l := HM.out.later hBD
      obtain ⟨wB, hwB⟩ : ∃ wB, wB = wr.drew.alloc (.cells (ecells x).toArray 75) := ⟨_, rfl⟩
      have bB : Below wr.drew.heap.size wr.drew wB := by rw [hwB]; exact below_alloc _ _
      obtain ⟨nB, hnB⟩ : ∃ nB, nB = wr.drew.heap.size := ⟨_, rfl⟩
      have HBS : Hid ((Instr.buildSlice 46 1 #[(0, .agg (ecells x).toArray)]).run Tryd.prog wr.drew = .ok (.slice (some ⟨nB, 0, none⟩) 1 1) wB) := by rw [hwB, hnB]; exact build_en etR wr.drew x hxw.len
      have lB : LAt 75 wB nB (ecells x) := by rw [hwB, hnB]; exact LAt.new _ _ _
      have oB : EOwn 75 wB w.heap.size (.slice p2 k c2) (l.take k) := O.own_later (O.own_later HO.out hD) bB
      have hBB : Below w.heap.size w wB := below_then hBD bB
      obtain ⟨q', c', wA, hap, ho, hg, hat⟩ := app_big etR (c := 1) oB (fun y hy => HM.out.wf y (List.mem_of_mem_take hy)) (one_ein lB hxw) (by omega) (by rw [HTL.out]; omega) hBB.size
      rw [HTL.out] at hap ho hat
      have HAP : Hid ((Builtin.append_ #[46, 46] 46 #[.slice p2 k c2, .slice (some ⟨nB, 0, none⟩) 1 1]).run Tryd.prog wB = .ok (.slice q' (k + 1) c') wA) := hap
      have hbA : Below w.heap.size w wA := (O.kept_grown hg).into hBB (fun b hb e => by have := (oB.lt b e).1; omega) (Nat.le_refl _)
      have HS1 : Hid (EIn wr.drew (some ⟨b1, o1, none⟩) m l) := S1
      have HS2 : Hid (EIn wB (some ⟨b1, o1, none⟩) m l) := HM.out.later hBB
      have HS3 : Hid (EIn wA (some ⟨b1, o1, none⟩) m l) := HM.out.later hbA
      have HFO : Hid (EOwn 75 wA w.heap.size (.slice q' (k + 1) c') (l.take (k + 1))) := by show EOwn _ _ _ _ _; rw [HTK.out]; exact ho
      have HFB : Hid (Below w.heap.size w wA) := hbA
      have i1 : (k : Int) < (m : Int) := by omega
      have i0 : (0 : Int) ≤ (k : Int) := by omega
      clear hap ho hg hat hbA oB lB bB hwB hnB S1 hBB hBD hD hx hxw HO HB HTK HTL hbl
      go_wp2_with fail
      refine wp_region_noPanic ?_
      refine wp_region_held_drew (S := fun W => EIn W (some ⟨b1, o1, none⟩) m l) (by kernel_rfl) HS1.out (fun hHeld => ?_)
      generalize wr.drew = wD at *
      refine wpAnyH_take (i := 0) (v := ?va1) (by simp; rfl) (by kernel_rfl) (by kernel_rfl) (by kernel_rfl) (fun _ _ _ h => h) (Or.inl ⟨by rfl, ?ya1⟩) hHeld ?ra1
      case ya1 => intro w hSw; clear hSw; go_simp; with_reducible rfl
      simp only [Act.put, List.setIfInBounds_toArray, List.set_cons_zero, List.set_cons_succ]
      refine wpAnyH_take (i := 1) (v := ?va2) (by simp; rfl) (by kernel_rfl) (by kernel_rfl) (by kernel_rfl) (fun _ _ _ h => h) (Or.inl ⟨by rfl, ?ya2⟩) hHeld ?ra2
      case ya2 => intro w hSw; clear hSw; go_simp; with_reducible rfl
      simp only [Act.put, List.setIfInBounds_toArray, List.set_cons_zero, List.set_cons_succ]
      refine wpAnyH_take (i := 2) (v := ?va3) (by simp; rfl) (by kernel_rfl) (by kernel_rfl) (by kernel_rfl) (fun _ _ _ h => h) (Or.inl ⟨by rfl, ?ya3⟩) hHeld ?ra3
      case ya3 => intro w hSw; clear hSw; go_simp; with_reducible rfl
      simp only [Act.put, List.setIfInBounds_toArray, List.set_cons_zero, List.set_cons_succ]
      refine wpAnyH_take (i := 3) (v := ?va4) (by simp; rfl) (by kernel_rfl) (by kernel_rfl) (by kernel_rfl) (fun _ _ _ h => h) (Or.inl ⟨by rfl, ?ya4⟩) hHeld ?ra4
      case ya4 => intro w hSw; clear hSw; go_simp; with_reducible rfl
      simp only [Act.put, List.setIfInBounds_toArray, List.set_cons_zero, List.set_cons_succ]
      refine wpAnyH_take (i := 4) (v := ?va5) (by simp; rfl) (by kernel_rfl) (by kernel_rfl) (by kernel_rfl) (fun _ _ _ h => h) (Or.inl ⟨by rfl, ?ya5⟩) hHeld ?ra5
      case ya5 => intro w hSw; clear hSw; go_simp; with_reducible rfl
      simp only [Act.put, List.setIfInBounds_toArray, List.set_cons_zero, List.set_cons_succ]
      refine wpAnyH_take (i := 5) (v := ?va6) (by simp; rfl) (by kernel_rfl) (by kernel_rfl) (by kernel_rfl) (fun _ _ _ h => h) (Or.inl ⟨by rfl, ?ya6⟩) hHeld ?ra6
      case ya6 => intro w hSw; have z := EIn.c0 hSw HX.out; clear hSw; go_simp; with_reducible rfl
      simp only [Act.put, List.setIfInBounds_toArray, List.set_cons_zero, List.set_cons_succ]
      refine wpAnyH_take (i := 6) (v := ?va7) (by simp; rfl) (by kernel_rfl) (by kernel_rfl) (by kernel_rfl) (fun _ _ _ h => h) (Or.inl ⟨by rfl, ?ya7⟩) hHeld ?ra7
      case ya7 => intro w hSw; clear hSw; go_simp; with_reducible rfl
      simp only [Act.put, List.setIfInBounds_toArray, List.set_cons_zero, List.set_cons_succ]
      refine wpAnyH_take (i := 7) (v := ?va8) (by simp; rfl) (by kernel_rfl) (by kernel_rfl) (by kernel_rfl) (fun _ _ _ h => h) (Or.inl ⟨by rfl, ?ya8⟩) hHeld ?ra8
      case ya8 => intro w hSw; clear hSw; go_simp; with_reducible rfl
      simp only [Act.put, List.setIfInBounds_toArray, List.set_cons_zero, List.set_cons_succ]
      refine wpAnyH_take (i := 8) (v := ?va9) (by simp; rfl) (by kernel_rfl) (by kernel_rfl) (by kernel_rfl) (fun _ _ _ h => h) (Or.inl ⟨by rfl, ?ya9⟩) hHeld ?ra9
      case ya9 => intro w hSw; clear hSw; go_simp; with_reducible rfl
      simp only [Act.put, List.setIfInBounds_toArray, List.set_cons_zero, List.set_cons_succ]
      refine wpAnyH_take (i := 9) (v := ?va10) (by simp; rfl) (by kernel_rfl) (by kernel_rfl) (by kernel_rfl) (fun _ _ _ h => h) (Or.inl ⟨by rfl, ?ya10⟩) hHeld ?ra10
      case ya10 => intro w hSw; clear hSw; go_simp; with_reducible rfl
      simp only [Act.put, List.setIfInBounds_toArray, List.set_cons_zero, List.set_cons_succ]
      refine wpAnyH_take (i := 10) (v := _) (by simp; rfl) (by kernel_rfl) (by kernel_rfl) (by kernel_rfl) (fun _ _ _ h => h) (yields_load_is (x := .tmp 20) (p := .pointer (some ⟨b1, o1 + k * 34 + 1, none⟩)) (v := .agg (U8 x.v).toArray) (by rfl) 52 rfl rfl (fun W hW => EIn.loadv hW HX.out)) hHeld ?_
      simp only [Act.put, List.setIfInBounds_toArray, List.set_cons_zero, List.set_cons_succ]
      refine wpAnyH_take (i := 11) (v := ?va11) (by simp; rfl) (by kernel_rfl) (by kernel_rfl) (by kernel_rfl) (fun _ _ _ h => h) (Or.inl ⟨by rfl, ?ya11⟩) hHeld ?ra11
      case ya11 => intro w hSw; clear hSw; go_simp; with_reducible rfl
      simp only [Act.put, List.setIfInBounds_toArray, List.set_cons_zero, List.set_cons_succ]
      refine wpAnyH_take (i := 12) (v := ?va12) (by simp; rfl) (by kernel_rfl) (by kernel_rfl) (by kernel_rfl) (fun _ _ _ h => h) (Or.inl ⟨by rfl, ?ya12⟩) hHeld ?ra12
      case ya12 => intro w hSw; clear hSw; go_simp; with_reducible rfl
      simp only [Act.put, List.setIfInBounds_toArray, List.set_cons_zero, List.set_cons_succ]
      refine wpAnyH_take (i := 13) (v := ?va13) (by simp; rfl) (by kernel_rfl) (by kernel_rfl) (by kernel_rfl) (fun _ _ _ h => h) (Or.inl ⟨by rfl, ?ya13⟩) hHeld ?ra13
      case ya13 => intro w hSw; clear hSw; go_simp; with_reducible rfl
      simp only [Act.put, List.setIfInBounds_toArray, List.set_cons_zero, List.set_cons_succ]
      refine wpAnyH_take (i := 14) (v := ?va14) (by simp; rfl) (by kernel_rfl) (by kernel_rfl) (by kernel_rfl) (fun _ _ _ h => h) (Or.inl ⟨by rfl, ?ya14⟩) hHeld ?ra14
      case ya14 => intro w hSw; clear hSw; go_simp; with_reducible rfl
      simp only [Act.put, List.setIfInBounds_toArray, List.set_cons_zero, List.set_cons_succ]
      refine wpAnyH_take (i := 15) (v := ?va15) (by simp; rfl) (by kernel_rfl) (by kernel_rfl) (by kernel_rfl) (fun _ _ _ h => h) (Or.inl ⟨by rfl, ?ya15⟩) hHeld ?ra15
      case ya15 => intro w hSw; have z := EIn.cp hSw HX.out; clear hSw; go_simp; with_reducible rfl
      simp only [Act.put, List.setIfInBounds_toArray, List.set_cons_zero, List.set_cons_succ]
      refine wpAnyH_take (i := 16) (v := _) (by simp; rfl) (by kernel_rfl) (by kernel_rfl) (by kernel_rfl) (fun _ _ _ h => h) (yields_build_is (vs := [(0, .int .i64 x.b), (1, .agg (U8 x.v).toArray), (2, .int .u64 x.p)]) (by rfl) 75 rfl (by rfl) (fun w => buildE etR w x.b x.v x.p HXW.out.len)) hHeld ?_
      simp only [Act.put, List.setIfInBounds_toArray, List.set_cons_zero, List.set_cons_succ]
      refine wpAnyH_ready (rs := [17]) (by kernel_rfl) (by simp) ?_
      refine AllReadyH.cons (by simp; rfl) (fun Kc hKc => ?_) AllReadyH.nil
      refine step_slice1_is (by rfl) 46 rfl rfl HBS.out ?_
      refine hKc.out _ _ HS2.out (fun hHeld => ?_)
      clear hKc Kc
      simp only [Act.put, List.setIfInBounds_toArray, List.set_cons_zero, List.set_cons_succ]
      refine wpAnyH_ready (rs := [18]) (by kernel_rfl) (by simp) ?_
      refine AllReadyH.cons (by simp; rfl) (fun Kc hKc => ?_) AllReadyH.nil
      refine step_append_is (u1 := .slice p2 k c2) (u2 := .slice (some ⟨nB, 0, none⟩) 1 1) (by rfl) rfl rfl rfl rfl HAP.out ?_
      refine hKc.out _ _ HS3.out (fun hHeld => ?_)
      clear hKc Kc
      simp only [Act.put, List.setIfInBounds_toArray, List.set_cons_zero, List.set_cons_succ]
      refine wpAnyH_take (i := 19) (v := ?va16) (by simp; rfl) (by kernel_rfl) (by kernel_rfl) (by kernel_rfl) (fun _ _ _ h => h) (Or.inl ⟨by rfl, ?ya16⟩) hHeld ?ra16
      case ya16 => intro w hSw; clear hSw; go_simp; with_reducible rfl
      simp only [Act.put, List.setIfInBounds_toArray, List.set_cons_zero, List.set_cons_succ]
      refine wpAnyH_done (by kernel_rfl) (NoPanic.normal ?_) _
      clear hHeld
      go_wp2
      go_roundw
      case rel => exact ⟨k + 1, q', c', rfl, by congr 1, by omega, HFO, HFB⟩
      case measure => simp [intOf]; omega
    · have HFO : Hid (EOwn 75 wr w.heap.size (.slice p2 k c2) l) := by
        have := HO.out
        rw [List.take_of_length_le (by rw [HL.out]; omega)] at this
        exact this
      clear HO
      go_wp2
      go_ret
      exact ⟨_, rfl, HFO.out, HB.out⟩
/-- are lists of entries alike? -/
def ensB : List En → List En → Bool
  | [], [] => true
  | x :: a, y :: b => enB x y && ensB a b
  | _, _ => false
theorem ensB_iff : ∀ (a b : List En), ensB a b = true ↔ a = b
  | [], [] => by simp [ensB]
  | x :: a, y :: b => by simp [ensB, ensB_iff a b, enB_iff]
  | [], _ :: _ => by simp [ensB]
  | _ :: _, [] => by simp [ensB]
theorem ensB_no {a b : List En} (h : ¬ a = b) : ensB a b = false := by
  cases e : ensB a b with
  | false => rfl
  | true => exact absurd ((ensB_iff a b).1 e) h
theorem ensB_yes {a b : List En} (h : a = b) : ensB a b = true := (ensB_iff a b).2 h
theorem same_no {a b : List En} {k : Nat} {x y : En} (hx : a[k]? = some x) (hy : b[k]? = some y) (h : enB x y = false) : ¬ a = b := fun e => by
  subst e
  rw [hx] at hy; cases hy
  have := (enB_iff x x).2 rfl
  rw [this] at h; cases h
set_option maxHeartbeats 2000000 in
set_option maxRecDepth 100000 in
theorem same_at {p q : Option Addr} {m c k d : Nat} {a b : List En} (ha : EIn w p m a) (hb : EIn w q k b) (hm : m ≤ 140737488355328) : Calls Tryd.prog 25 #[.slice p m c, .slice q k d] w fun e w' => e = .returned (.bool (ensB a b)) ∧ Below w.heap.size w w' := by
  by_cases hmk : m = k
  · subst hmk
    have HA : Hid (EIn w p m a) := ha
    have HB : Hid (EIn w q m b) := hb
    clear ha hb
    have hbm : (((m : Nat) : Int) != ((m : Nat) : Int)) = false := by simp
    go_enter Tryd.func25, Tryd.ntmps25
    go_wp2_with fail
    go_loopw [5] (fun v W => ∃ j : Nat, v = .int .i64 (j : Int) ∧ j ≤ m ∧ Hid (a.take j = b.take j) ∧ Hid (Below w.heap.size w W)) (fun v _ => m - (intOf v).toNat)
    case atStart => exact ⟨0, rfl, by omega, (rfl : a.take 0 = b.take 0), Below.refl _ _⟩
    case round =>
      obtain ⟨j, rfl, hj, HT, HBw⟩ := hrel
      by_cases hlt : j < m
      · obtain ⟨x, hx, hxw⟩ := HA.out.len_lt hlt
        obtain ⟨y, hy, hyw⟩ := HB.out.len_lt hlt
        obtain ⟨b1, o1, rfl, -⟩ := HA.out.cells (by omega)
        obtain ⟨b2, o2, rfl, -⟩ := HB.out.cells (by omega)
        have L1 : Hid (∀ W, Below wr.heap.size wr W → (Instr.loadAt 75 (.pointer (some ⟨b1, o1 + j * 34, none⟩))).run Tryd.prog W = .ok (.agg (ecells x).toArray) W) := fun W hW => EIn.load etR (HA.out.later (below_then HBw.out hW)) hx
        have L2 : Hid (∀ W, Below wr.heap.size wr W → (Instr.loadAt 75 (.pointer (some ⟨b2, o2 + j * 34, none⟩))).run Tryd.prog W = .ok (.agg (ecells y).toArray) W) := fun W hW => EIn.load etR (HB.out.later (below_then HBw.out hW)) hy
        have LN : Hid (∀ W, (binOp .neq 75 (.agg (ecells x).toArray) (.agg (ecells y).toArray)).run Tryd.prog W = .ok (.bool (!enB x y)) W) := fun W => neqE etR W x y hxw.len hyw.len
        have HT2 : Hid (enB x y = true → a.take (j + 1) = b.take (j + 1)) := fun e => by rw [take_snocE hx, take_snocE hy, HT.out, (enB_iff x y).1 e]
        have HT3 : Hid (enB x y = false → ¬ a = b) := fun e => same_no hx hy e
        have i1 : (j : Int) < (m : Int) := by omega
        have i0 : (0 : Int) ≤ (j : Int) := by omega
        have HD : Hid (Below wr.heap.size wr wr.drew) := below_drawn 1
        have HBD : Hid (Below w.heap.size w wr.drew) := below_then HBw.out HD.out
        clear hx hy hxw hyw HT
        go_wp2_with fail
        refine wp_region_noPanic ?_
        refine wp_region_held_drew (S := fun W => Below wr.heap.size wr W) (by kernel_rfl) HD.out (fun hHeld => ?_)
        generalize wr.drew = wD at *
        refine wpAnyH_take (i := 0) (v := ?va17) (by simp; rfl) (by kernel_rfl) (by kernel_rfl) (by kernel_rfl) (fun _ _ _ h => h) (Or.inl ⟨by rfl, ?ya17⟩) hHeld ?ra17
        case ya17 => intro w hSw; clear hSw; go_simp; with_reducible rfl
        simp only [Act.put, List.setIfInBounds_toArray, List.set_cons_zero, List.set_cons_succ]
        refine wpAnyH_take (i := 1) (v := ?va18) (by simp; rfl) (by kernel_rfl) (by kernel_rfl) (by kernel_rfl) (fun _ _ _ h => h) (Or.inl ⟨by rfl, ?ya18⟩) hHeld ?ra18
        case ya18 => intro w hSw; clear hSw; go_simp; with_reducible rfl
        simp only [Act.put, List.setIfInBounds_toArray, List.set_cons_zero, List.set_cons_succ]
        refine wpAnyH_take (i := 2) (v := ?va19) (by simp; rfl) (by kernel_rfl) (by kernel_rfl) (by kernel_rfl) (fun _ _ _ h => h) (Or.inl ⟨by rfl, ?ya19⟩) hHeld ?ra19
        case ya19 => intro w hSw; clear hSw; go_simp; with_reducible rfl
        simp only [Act.put, List.setIfInBounds_toArray, List.set_cons_zero, List.set_cons_succ]
        refine wpAnyH_take (i := 3) (v := _) (by simp; rfl) (by kernel_rfl) (by kernel_rfl) (by kernel_rfl) (fun _ _ _ h => h) (yields_load_is (x := .tmp 19) (p := .pointer (some ⟨b1, o1 + j * 34, none⟩)) (v := .agg (ecells x).toArray) (by rfl) 75 rfl rfl (fun W hW => L1.out W hW)) hHeld ?_
        simp only [Act.put, List.setIfInBounds_toArray, List.set_cons_zero, List.set_cons_succ]
        refine wpAnyH_take (i := 4) (v := ?va20) (by simp; rfl) (by kernel_rfl) (by kernel_rfl) (by kernel_rfl) (fun _ _ _ h => h) (Or.inl ⟨by rfl, ?ya20⟩) hHeld ?ra20
        case ya20 => intro w hSw; clear hSw; go_simp; with_reducible rfl
        simp only [Act.put, List.setIfInBounds_toArray, List.set_cons_zero, List.set_cons_succ]
        refine wpAnyH_take (i := 5) (v := ?va21) (by simp; rfl) (by kernel_rfl) (by kernel_rfl) (by kernel_rfl) (fun _ _ _ h => h) (Or.inl ⟨by rfl, ?ya21⟩) hHeld ?ra21
        case ya21 => intro w hSw; clear hSw; go_simp; with_reducible rfl
        simp only [Act.put, List.setIfInBounds_toArray, List.set_cons_zero, List.set_cons_succ]
        refine wpAnyH_take (i := 6) (v := ?va22) (by simp; rfl) (by kernel_rfl) (by kernel_rfl) (by kernel_rfl) (fun _ _ _ h => h) (Or.inl ⟨by rfl, ?ya22⟩) hHeld ?ra22
        case ya22 => intro w hSw; clear hSw; go_simp; with_reducible rfl
        simp only [Act.put, List.setIfInBounds_toArray, List.set_cons_zero, List.set_cons_succ]
        refine wpAnyH_take (i := 7) (v := _) (by simp; rfl) (by kernel_rfl) (by kernel_rfl) (by kernel_rfl) (fun _ _ _ h => h) (yields_load_is (x := .tmp 23) (p := .pointer (some ⟨b2, o2 + j * 34, none⟩)) (v := .agg (ecells y).toArray) (by rfl) 75 rfl rfl (fun W hW => L2.out W hW)) hHeld ?_
        simp only [Act.put, List.setIfInBounds_toArray, List.set_cons_zero, List.set_cons_succ]
        refine wpAnyH_take (i := 8) (v := _) (by simp; rfl) (by kernel_rfl) (by kernel_rfl) (by kernel_rfl) (fun _ _ _ h => h) (yields_neq_is (by rfl) 75 rfl rfl rfl etR.eqg LN.out) hHeld ?_
        simp only [Act.put, List.setIfInBounds_toArray, List.set_cons_zero, List.set_cons_succ]
        clear hHeld
        refine wpAnyH_done (by kernel_rfl) (NoPanic.normal ?_) _
        cases hz : enB x y with
        | true =>
          have HN : Hid (a.take (j + 1) = b.take (j + 1)) := HT2.out hz
          clear hz
          go_wp2
          go_roundw
          case rel => exact ⟨j + 1, by congr 1, by omega, HN, HBD⟩
          case measure => simp [intOf]; omega
        | false =>
          have HN : Hid (¬ a = b) := HT3.out hz
          clear hz
          go_wp2
          go_ret
          exact ⟨by rw [ensB_no HN.out]; rfl, HBD.out⟩
      · have HE : Hid (a = b) := by
          have := HT.out
          rw [List.take_of_length_le (by rw [HA.out.len]; omega), List.take_of_length_le (by rw [HB.out.len]; omega)] at this
          exact this
        clear HT
        go_wp2
        go_ret
        exact ⟨by rw [ensB_yes HE.out]; rfl, HBw.out⟩
  · have HN : Hid (¬ a = b) := fun e => hmk (by rw [← ha.len, ← hb.len, e])
    have hb1 : (((m : Nat) : Int) != ((k : Nat) : Int)) = true := by rw [bne_iff_ne]; omega
    clear ha hb hmk
    go_enter Tryd.func25, Tryd.ntmps25
    go_wp2
    go_ret
    exact ⟨by rw [ensB_no HN.out]; rfl, Below.refl _ _⟩
end
end Go.Proofs.YthcpnfelnonhnaaDoor
