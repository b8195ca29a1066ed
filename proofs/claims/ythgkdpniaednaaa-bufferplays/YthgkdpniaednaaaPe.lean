/-
  Layer 16: Write.
-/
import Derived.Test.YthgkdpniaednaaaPd
import Derived.Test.YthgkdpniaednaaaZa
namespace Go.Proofs.Ythgkdpniaednaaa
open Go.RowKit

open B (I64)
section
variable {P : Program}
theorem step_store_is {ops : Array Oper} {o : Oper} {a : Act} {w w' : World} {K : Act → World → Prop} {Q : Exit → Act → World → Prop} {E : Prop}
    (hg : o.guard = none) (ty : TypeId) {x y : Operand} (ho : o.op = .store ty x y) {p v : Value} (hx : a.eval x = p) (hy : a.eval y = v) (hr : (Instr.storeAt ty p v).run P w = .ok () w') (hK : K (a.put o.dst undef) w') :
    if Region.wanted o (yielded ops a.tmps) = true then Oper.wp P o a w K Q else E := by
  have hw : Region.wanted o (yielded ops a.tmps) = true := by simp [Region.wanted, hg]
  rw [if_pos hw]
  have hrun : (execOp a.eval o).run P w = .ok .skip w' := by unfold execOp; simp only [ho, hx, hy, Sem.run_bind, hr, Result.andThen_ok, Sem.run_pure]
  unfold Oper.wp
  rw [hrun]
  exact hK
end
theorem take_next {α : Type} {C A : List α} {x : α} {a : Nat} (hA : C.take a = A) (hx : C[a]? = some x) : C.take (a + 1) = A ++ [x] := by
  rw [List.take_add_one, hA, hx]; rfl
/-- an image's value written over -/
theorem IOwn.putv {W : World} {B g n c k : Nat} {l : List Im} (h : IOwn W B (.slice (some ⟨g, 0, none⟩) n c) l) (hw : ImsWf l) {x : Im} (hx : l[k]? = some x) {v : List Int} (hv : Im.Wf ⟨x.b, v⟩) :
    ∃ W', (Instr.storeAt 31 (.pointer (some ⟨g, k * 33 + 1, none⟩)) (.agg (U8 v).toArray)).run Try.prog W = .ok () W' ∧ IOwn W' B (.slice (some ⟨g, 0, none⟩) n c) (l.set k ⟨x.b, v⟩) ∧ W.grownBy W' (some g) := by
  obtain ⟨i0, hi0, hz0, hz1, hz2⟩ := info_parts infoI
  obtain ⟨hk, ex⟩ := List.getElem?_eq_some_iff.1 hx
  obtain ⟨W', hr, ho, hg'⟩ := IOwn.put h hw ⟨x.b, v⟩ hv k hk
  have hset : l.set k ⟨x.b, v⟩ = l.take k ++ [⟨x.b, v⟩] ++ l.drop (k + 1) := by rw [List.set_eq_take_append_cons_drop, if_pos hk]; simp
  rcases h.2 with ⟨e, _⟩ | ⟨g', cap, cur, e, h0, hg, h1, h2, h3, h4⟩
  · cases e
  · cases e
    have hl : (icells ⟨x.b, v⟩).length = 33 := icells_len hv.len
    have hst := run_storeCells_at Try.prog g (k * 33) 33 (icells ⟨x.b, v⟩) 0 cur W hg (by rw [hl, h3]; omega) (icells_ones _)
    rw [Nat.add_zero, hl] at hst
    have hr' : (Instr.storeAt 33 (.pointer (some ⟨g, k * 33, none⟩)) (.agg (icells ⟨x.b, v⟩).toArray)).run Try.prog W = .ok () (W.setRow g (cur.toList.take (k * 33) ++ icells ⟨x.b, v⟩ ++ cur.toList.drop (k * 33 + 33)).toArray) := by
      simp [Instr.storeAt, Instr.sureAddr, storeVar, sizeOf, typeInfo, hi0, hz1, Value.cells, hl, hst]
    rw [hr'] at hr
    injection hr with _ eW
    have hvl : (U8 v).length = 32 := by rw [U8_length]; exact hv.len
    have hst2 := run_storeCells_at Try.prog g (k * 33 + 1) 33 (U8 v) 0 cur W hg (by rw [hvl, h3]; omega) (ones_u8 v)
    rw [Nat.add_zero, hvl] at hst2
    have hsv := sizeV
    have hr2 : (Instr.storeAt 31 (.pointer (some ⟨g, k * 33 + 1, none⟩)) (.agg (U8 v).toArray)).run Try.prog W = .ok () (W.setRow g (cur.toList.take (k * 33 + 1) ++ U8 v ++ cur.toList.drop (k * 33 + 1 + 32)).toArray) := by
      cases hq : Try.prog.info? 31 with
      | none => simp [hq] at hsv
      | some iv =>
        have hiv : iv.size = 32 := by simpa [hq] using hsv
        simp [Instr.storeAt, Instr.sureAddr, storeVar, sizeOf, typeInfo, hq, hiv, Value.cells, hvl, hst2]
    have hc0 : cur.toList[k * 33]? = some (.int .i64 x.b) := by
      have := IC_at hw hx 0 (by omega)
      rw [Nat.add_zero, Nat.mul_comm] at this
      have e2 : (cur.toList.take (l.length * 33))[k * 33]? = some (.int .i64 x.b) := by rw [h4, this]; rfl
      rw [List.getElem?_take] at e2
      split at e2
      · exact e2
      · cases e2
    have eA : cur.toList.take (k * 33 + 1) ++ U8 v ++ cur.toList.drop (k * 33 + 1 + 32) = cur.toList.take (k * 33) ++ icells ⟨x.b, v⟩ ++ cur.toList.drop (k * 33 + 33) := by
      rw [take_next rfl hc0]
      simp [icells]
    refine ⟨W', ?_, by rw [hset]; exact ho, hg'⟩
    rw [hr2, eA, eW]
/-- what Write makes of the images -/
def wrS (F : List Int) (L : List Im) (b : Int) (v : List Int) : List Im := if B.hasS F b = true then pt L b v else L
theorem Okb.wrote {F : List Int} {L : List Im} (h : Okb F L) {b : Int} {v : List Int} (hx : Im.Wf ⟨b, v⟩) : Okb F (wrS F L b v) := by
  unfold wrS
  split
  · rename_i e; exact h.put (B.hasS_iff.1 e) hx
  · exact h
/-- behind a call that writes into a buffer -/
structure Wrt (w w' : World) (Q : Nat) (pf : Option Addr) (cf : Nat) (F : List Int) (vi vi' : Value) (L' : List Im) : Prop where
  at' : BAt w' Q pf cf F vi' L'
  kept : Kept (fun k => k = Q ∨ vi.ownBlock = some k) w w'
  new : ∀ g, vi'.ownBlock = some g → vi.ownBlock = some g ∨ w.heap.size ≤ g
section
variable {w w' : World} {Q cf : Nat} {pf : Option Addr} {F : List Int} {vi : Value} {L : List Im}
theorem BAt.grew {W W' : World} {L' : List Im} (h : BAt W Q pf cf F vi L) (hr : IOwn W' 0 vi L') (hg : W.grownBy W' vi.ownBlock) : BAt W' Q pf cf F vi L' := by
  have hk := O.kept_grown hg
  refine ⟨(hk.block Q h.lt h.ne).trans h.st, iin_far h.form (fun a ha h0 => hk.block _ (by subst ha; exact h.form.lt h0) (h.fne ha).2), h.fcap, fun a ha => ?_, hr⟩
  obtain ⟨cs, hc⟩ := h.kind a ha
  exact ⟨cs, (hk.block _ (Array.getElem?_eq_some_iff.1 hc).1 (h.fne ha).2).trans hc⟩
/-- another row of images is laid into its cell -/
theorem BAt.lay {W : World} {v' : Value} {L' : List Im} (st : W.heap[Q]? = some (.cells #[.slice pf F.length cf, vi] 65 (0, 0))) (form : B.IIn W pf F.length F) (fcap : F.length ≤ cf) (kind : ∀ a, pf = some a → ∃ cs, W.heap[a.block]? = some (.cells cs 3 (0, 0))) (hr : IOwn W 0 v' L') : BAt (W.setCell ⟨Q, 1, none⟩ v') Q pf cf F v' L' := by
  have hk := Kept.setCell (w := W) Q 1 v'
  have fq : ∀ a, pf = some a → a.block ≠ Q := fun a ha e => by
    obtain ⟨cs, hc⟩ := kind a ha
    rw [e, st] at hc
    simp at hc
  refine ⟨?_, iin_far form (fun a ha h0 => hk.block _ (by subst ha; exact form.lt h0) (fq a ha)), fcap, fun a ha => ?_, O.own_far hr hk (fun g hg e => O.own_not hr st (by decide) (by rw [hg]; exact congrArg some e))⟩
  · rw [setCell_eq_setRow W Q 1 _ 65 (0, 0) v' st]
    exact setRow_heap W Q _ _ 65 _ st
  · obtain ⟨cs, hc⟩ := kind a ha
    exact ⟨cs, (hk.block _ (Array.getElem?_eq_some_iff.1 hc).1 (fq a ha)).trans hc⟩
set_option maxHeartbeats 2000000 in
set_option maxRecDepth 100000 in
theorem write_at (h : BAt w Q pf cf F vi L) (hk : Okb F L) {b : Int} {v : List Int} (hx : Im.Wf ⟨b, v⟩) : Calls Try.prog 9 #[.pointer (some ⟨Q, 0, none⟩), .int .i64 b, .agg (U8 v).toArray] w fun e w' => e = .returned (.int .i64 (refS F b)) ∧ ∃ vi', Wrt w w' Q pf cf F vi vi' (wrS F L b v) := by
  have hF := (isS_len hk.is).2
  have hfew := hk.few
  obtain ⟨w1, hw1⟩ : ∃ w1, w1 = w.alloc (.cells (U8 v).toArray 31) := ⟨_, rfl⟩
  have HVL : Hid ((U8 v).length = 32) := by show _ = _; rw [U8_length]; exact hx.len
  have B1 : Below w.heap.size w w1 := by rw [hw1]; exact below_alloc w _
  have HV1 : Hid (VAt w1 w.heap.size v) := by rw [hw1]; exact LAt.new _ _ _
  have HA1 : Hid (BAt w1 Q pf cf F vi L) := h.later B1
  have HB1 : Hid (Below w.heap.size w w1) := B1
  have HK : Hid (Okb F L) := hk
  have HX : Hid (Im.Wf ⟨b, v⟩) := hx
  have hw1' := hw1.symm
  clear B1 h hk hx hw1
  go_enter Try.func9, Try.ntmps9
  by_cases hb : b ∈ F
  · have HR : Hid (refS F b = 0) := refS_in hb
    have HW : Hid (wrS F L b v = pt L b v) := if_pos (B.hasS_iff.2 hb)
    clear hb
    go_wp2_with fail
    refine (refuses_at HA1.out hF b).mono ?_
    rintro e w' ⟨rfl, rfl⟩
    rw [HR.out]
    go_wp2_with fail
    refine (find_at HA1.out HK.out b).mono ?_
    rintro e w2 ⟨rfl, bn⟩
    have A2 : BAt w2 Q pf cf F vi L := HA1.out.later bn
    have HV2 : Hid (VAt w2 w.heap.size v) := LAt.later HV1.out bn
    have HB2 : Hid (Below w.heap.size w w2) := below_then HB1.out bn
    clear HV1 HA1 HB1 bn hw1'
    have hpl0 := plc_le L b
    cases hat : isAt L b with
    | true =>
      obtain ⟨x, hx, hxb⟩ := isAt_some hat
      have HPT : Hid (pt L b v = L.set (plc L b) ⟨b, v⟩) := if_pos hat
      have hpl : plc L b < L.length := (List.getElem?_eq_some_iff.1 hx).1
      obtain ⟨p, c, rfl, hM, hc⟩ := A2.min HK.out.wf
      obtain ⟨g, rfl⟩ : ∃ g, p = some ⟨g, 0, none⟩ := by
        obtain ⟨p', c', e, _, hg⟩ := O.own_form A2.row
        obtain ⟨g, rfl⟩ := hg (by omega)
        cases e; exact ⟨g, rfl⟩
      have rD : IOwn w2.drew 0 (.slice (some ⟨g, 0, none⟩) L.length c) L := A2.row
      obtain ⟨W', hst, ho, hgr⟩ := IOwn.putv rD HK.out.wf hx (v := v) (by rw [hxb]; exact HX.out)
      have HST : Hid ((Instr.storeAt 31 (.pointer (some ⟨g, plc L b * 33 + 1, none⟩)) (.agg (U8 v).toArray)).run Try.prog w2.drew = .ok () W') := hst
      have HFIN : Hid (Wrt w W' Q pf cf F (.slice (some ⟨g, 0, none⟩) L.length c) (.slice (some ⟨g, 0, none⟩) L.length c) (pt L b v)) := by
        have hb2 : Below w.heap.size w w2.drew := below_then HB2.out (show Below w2.heap.size w2 w2.drew from below_drawn 1)
        have hbd : BAt w2.drew Q pf cf F (.slice (some ⟨g, 0, none⟩) L.length c) L := A2.later (show Below w2.heap.size w2 w2.drew from below_drawn 1)
        refine ⟨?_, (Kept.of_below _ hb2).trans (O.kept_grown (v := .slice (some ⟨g, 0, none⟩) L.length c) hgr) (fun y _ e => .inr e), fun g' hg' => .inl hg'⟩
        have e : (⟨x.b, v⟩ : Im) = ⟨b, v⟩ := by rw [hxb]
        rw [HPT.out]
        rw [e] at ho
        exact hbd.grew ho hgr
      have HS1 : Hid (w2.drew.cell? ⟨Q, 1, none⟩ = some (.slice (some ⟨g, 0, none⟩) L.length c) ∧ VAt w2.drew w.heap.size v) := ⟨A2.c1, HV2.out⟩
      have HS2 : Hid (W'.cell? ⟨Q, 1, none⟩ = some (.slice (some ⟨g, 0, none⟩) L.length c) ∧ VAt W' w.heap.size v) := ⟨HFIN.out.at'.c1, (hgr.block _ (LAt.lt HV2.out) (fun e => by
        obtain ⟨cu, hcu⟩ := O.own_typ (b := g) rD rfl
        have e2 : g = w.heap.size := by simpa using e.symm
        rw [e2] at hcu
        have h3 : w2.heap[w.heap.size]? = _ := HV2.out
        rw [show w2.drew.heap = w2.heap from rfl, h3] at hcu
        simp at hcu)).trans HV2.out⟩
      have i1 : ((plc L b : Nat) : Int) < (L.length : Int) := by omega
      have i0 : (0 : Int) ≤ ((plc L b : Nat) : Int) := by omega
      clear hst ho hgr rD hM hx hxb A2 HPT HV2 HB2
      generalize plc L b = k at *
      go_wp2_with fail
      refine wp_region_noPanic ?_
      refine wp_region_held_drew (S := fun W => W.cell? ⟨Q, 1, none⟩ = some (.slice (some ⟨g, 0, none⟩) L.length c) ∧ VAt W w.heap.size v) (by kernel_rfl) HS1.out (fun hHeld => ?_)
      refine wpAnyH_take (i := 0) (v := ?va1) (by simp; rfl) (by kernel_rfl) (by kernel_rfl) (by kernel_rfl) (fun _ _ _ h => h) (Or.inl ⟨by rfl, ?ya1⟩) hHeld ?ra1
      case ya1 => intro w hSw; clear hSw; go_simp; with_reducible rfl
      simp only [Act.put, List.setIfInBounds_toArray, List.set_cons_zero, List.set_cons_succ]
      refine wpAnyH_take (i := 1) (v := ?va2) (by simp; rfl) (by kernel_rfl) (by kernel_rfl) (by kernel_rfl) (fun _ _ _ h => h) (Or.inl ⟨by rfl, ?ya2⟩) hHeld ?ra2
      case ya2 => intro w hSw; clear hSw; go_simp; with_reducible rfl
      simp only [Act.put, List.setIfInBounds_toArray, List.set_cons_zero, List.set_cons_succ]
      refine wpAnyH_take (i := 2) (v := ?va3) (by simp; rfl) (by kernel_rfl) (by kernel_rfl) (by kernel_rfl) (fun _ _ _ h => h) (Or.inl ⟨by rfl, ?ya3⟩) hHeld ?ra3
      case ya3 => intro w hSw; clear hSw; go_simp; with_reducible rfl
      simp only [Act.put, List.setIfInBounds_toArray, List.set_cons_zero, List.set_cons_succ]
      refine wpAnyH_take (i := 3) (v := ?va4) (by simp; rfl) (by kernel_rfl) (by kernel_rfl) (by kernel_rfl) (fun _ _ _ h => h) (Or.inl ⟨by rfl, ?ya4⟩) hHeld ?ra4
      case ya4 => intro w hSw; have z := hSw.1; clear hSw; go_simp; with_reducible rfl
      simp only [Act.put, List.setIfInBounds_toArray, List.set_cons_zero, List.set_cons_succ]
      refine wpAnyH_take (i := 4) (v := ?va5) (by simp; rfl) (by kernel_rfl) (by kernel_rfl) (by kernel_rfl) (fun _ _ _ h => h) (Or.inl ⟨by rfl, ?ya5⟩) hHeld ?ra5
      case ya5 => intro w hSw; clear hSw; go_simp; with_reducible rfl
      simp only [Act.put, List.setIfInBounds_toArray, List.set_cons_zero, List.set_cons_succ]
      refine wpAnyH_take (i := 5) (v := _) (by simp; rfl) (by kernel_rfl) (by kernel_rfl) (by kernel_rfl) (fun _ _ _ h => h) (yieldsIf_load_mid (by rfl) 31 (.tmp 5) rfl w.heap.size 0 rfl (U8 v) _ (fun W hW => LAt.range hW.2) Try.underlying31 rfl (by rw [sizeV, HVL.out])) hHeld ?_
      simp only [Act.put, List.setIfInBounds_toArray, List.set_cons_zero, List.set_cons_succ]
      refine wpAnyH_take (i := 6) (v := ?va6) (by simp; rfl) (by kernel_rfl) (by kernel_rfl) (by kernel_rfl) (fun _ _ _ h => h) (Or.inl ⟨by rfl, ?ya6⟩) hHeld ?ra6
      case ya6 => intro w hSw; clear hSw; go_simp; with_reducible rfl
      simp only [Act.put, List.setIfInBounds_toArray, List.set_cons_zero, List.set_cons_succ]
      refine wpAnyH_take (i := 7) (v := ?va7) (by simp; rfl) (by kernel_rfl) (by kernel_rfl) (by kernel_rfl) (fun _ _ _ h => h) (Or.inl ⟨by rfl, ?ya7⟩) hHeld ?ra7
      case ya7 => intro w hSw; clear hSw; go_simp; with_reducible rfl
      simp only [Act.put, List.setIfInBounds_toArray, List.set_cons_zero, List.set_cons_succ]
      refine wpAnyH_ready (rs := [8]) (by kernel_rfl) (by simp) ?_
      refine AllReadyH.cons (by simp; rfl) (fun Kc hKc => ?_) AllReadyH.nil
      refine step_store_is rfl 31 rfl rfl rfl HST.out ?_
      refine hKc.out _ _ HS2.out (fun hHeld => ?_)
      clear hKc Kc hHeld
      simp only [Act.put]
      refine wpAnyH_done (by kernel_rfl) (NoPanic.normal ?_) _
      go_wp2
      go_ret
      exact ⟨by rw [HR.out]; rfl, _, by rw [HW.out]; exact HFIN.out⟩
    | false =>
      have HPT : Hid (pt L b v = L.take (plc L b) ++ [⟨b, v⟩] ++ L.drop (plc L b)) := if_neg (by rw [hat]; decide)
      have hx0 : Im.Wf ⟨b, zs 32⟩ := ⟨HX.out.b, zs_len 32, zs_bytes 32⟩
      obtain ⟨w3, hw3⟩ : ∃ w3, w3 = w2.alloc (.cells (icells ⟨b, zs 32⟩).toArray 33) := ⟨_, rfl⟩
      have HBU : Hid ((Instr.build 33 #[(0, .int .i64 b)]).run Try.prog w2 = .ok (.agg (icells ⟨b, zs 32⟩).toArray) w2) := buildIb w2 b
      have HBS : Hid ((Instr.buildSlice 23 1 #[(0, .agg (icells ⟨b, zs 32⟩).toArray)]).run Try.prog w2 = .ok (.slice (some ⟨w2.heap.size, 0, none⟩) 1 1) w3) := by rw [hw3]; exact build_im w2 _ (zs_len 32)
      have b23 : Below w2.heap.size w2 w3 := by rw [hw3]; exact below_alloc w2 _
      have l3 : LAt 33 w3 w2.heap.size (icells ⟨b, zs 32⟩) := by rw [hw3]; exact LAt.new _ _ _
      have A3 : BAt w3 Q pf cf F vi L := A2.later b23
      have hins := insert_at A3.row HK.out.wf hx0 l3 (fun e => by have := (A2.row.lt _ e).2; omega) hpl0 (by omega) (Nat.zero_le _)
      have HINS : Hid (Calls Try.prog 27 #[vi, .int .i64 ((plc L b : Nat) : Int), .slice (some ⟨w2.heap.size, 0, none⟩) 1 1] w3 fun e w' => ∃ v', e = .returned v' ∧ IOwn w' 0 v' (L.take (plc L b) ++ [⟨b, zs 32⟩] ++ L.drop (plc L b)) ∧ Kept (fun k => vi.ownBlock = some k) w3 w' ∧ (v'.ownBlock = vi.ownBlock ∨ v'.ownBlock = some w3.heap.size)) := hins
      have HA3 : Hid (BAt w3 Q pf cf F vi L) := A3
      have HV3 : Hid (VAt w3 w.heap.size v) := LAt.later HV2.out b23
      have HB3 : Hid (Below w.heap.size w w3) := below_then HB2.out b23
      have c1 := A2.c1
      have HSZ : Hid (w.heap.size < w2.heap.size) := LAt.lt HV2.out
      obtain ⟨g2, hg2⟩ : ∃ g2, g2 = w2.heap.size := ⟨_, rfl⟩
      rw [← hg2] at HINS HBS
      clear hw3 b23 l3 A3 A2 hins HB2 HV2 hg2 HSZ
      go_wp2_with ((with_reducible refine at_ops ?_); (first | (refine wpList_build_is (vs := [(0, .int .i64 b)]) (by rfl) 33 rfl (by rfl) HBU.out ?_) | (refine wpList_slice_is (u := .agg (icells ⟨b, zs 32⟩).toArray) (by rfl) 23 rfl rfl HBS.out ?_)); simp only [Act.put, List.setIfInBounds_toArray, List.set_cons_zero, List.set_cons_succ])
      refine HINS.out.mono ?_
      rintro e w4 ⟨v', rfl, hO, hK, hN⟩
      have A4 : BAt w4 Q pf cf F vi L → True := fun _ => trivial
      have st4 : w4.heap[Q]? = some (.cells #[.slice pf F.length cf, vi] 65 (0, 0)) := (hK.block Q HA3.out.lt HA3.out.ne).trans HA3.out.st
      have f4 : B.IIn w4 pf F.length F := iin_far HA3.out.form (fun a ha h0 => hK.block _ (by subst ha; exact HA3.out.form.lt h0) (HA3.out.fne ha).2)
      have k4 : ∀ a, pf = some a → ∃ cs, w4.heap[a.block]? = some (.cells cs 3 (0, 0)) := fun a ha => by
        obtain ⟨cs, hc⟩ := HA3.out.kind a ha
        exact ⟨cs, (hK.block _ (Array.getElem?_eq_some_iff.1 hc).1 (HA3.out.fne ha).2).trans hc⟩
      have A5 : BAt (w4.setCell ⟨Q, 1, none⟩ v') Q pf cf F v' (L.take (plc L b) ++ [⟨b, zs 32⟩] ++ L.drop (plc L b)) := BAt.lay st4 f4 HA3.out.fcap k4 hO
      have q1 : w4.cell? ⟨Q, 1, none⟩ = some vi := by rw [cell_of_row _ Q 1 _ 65 (0, 0) st4]; rfl
      have q2 : w4.frozen? ⟨Q, 1, none⟩ = false := by simp [World.frozen?, st4]
      have vne : ∀ g, (g = Q ∨ vi.ownBlock = some g) → g ≠ w.heap.size := fun g hg e => by
        have hv := HV3.out
        subst e
        rcases hg with e | e
        · have := HA3.out.st; rw [← e, show w3.heap[w.heap.size]? = _ from hv] at this; simp at this
        · exact O.own_not HA3.out.row hv (by decide) e
      have K5 : Kept (fun k => k = Q ∨ vi.ownBlock = some k) w3 (w4.setCell ⟨Q, 1, none⟩ v') := (hK.wider (T := fun k => k = Q ∨ vi.ownBlock = some k) (fun x _ e => .inr e)).trans (Kept.setCell Q 1 v') (fun x _ e => .inl e)
      have V5 : VAt (w4.setCell ⟨Q, 1, none⟩ v') w.heap.size v := (K5.block _ (LAt.lt HV3.out) (fun e => vne _ e rfl)).trans HV3.out
      have hlen5 : (L.take (plc L b) ++ [(⟨b, zs 32⟩ : Im)] ++ L.drop (plc L b)).length = L.length + 1 := ins_len hpl0 _
      have hx5 : (L.take (plc L b) ++ [(⟨b, zs 32⟩ : Im)] ++ L.drop (plc L b))[plc L b]? = some ⟨b, zs 32⟩ := by
        have e : (L.take (plc L b)).length = plc L b := by rw [List.length_take]; omega
        rw [List.append_assoc, List.getElem?_append_right (by omega), e, Nat.sub_self]; rfl
      have hset5 : (L.take (plc L b) ++ [(⟨b, zs 32⟩ : Im)] ++ L.drop (plc L b)).set (plc L b) ⟨b, v⟩ = L.take (plc L b) ++ [⟨b, v⟩] ++ L.drop (plc L b) := by
        have e : (L.take (plc L b)).length = plc L b := by rw [List.length_take]; omega
        rw [List.append_assoc, List.set_append_right _ _ (by omega), e, Nat.sub_self, List.append_assoc]; rfl
      obtain ⟨p', c, ev, hc, hg⟩ := O.own_form A5.row
      obtain ⟨g, rfl⟩ := hg (by rw [hlen5]; omega)
      rw [hlen5] at ev hc
      subst ev
      have hwf5 : ImsWf (L.take (plc L b) ++ [(⟨b, zs 32⟩ : Im)] ++ L.drop (plc L b)) := wf_ins HK.out.wf _ hx0
      have rD : IOwn (w4.setCell ⟨Q, 1, none⟩ (.slice (some ⟨g, 0, none⟩) (L.length + 1) c)).drew 0 (.slice (some ⟨g, 0, none⟩) (L.length + 1) c) (L.take (plc L b) ++ [⟨b, zs 32⟩] ++ L.drop (plc L b)) := A5.row
      obtain ⟨W', hst, ho, hgr⟩ := IOwn.putv rD hwf5 hx5 (v := v) HX.out
      rw [hset5] at ho
      have HST : Hid ((Instr.storeAt 31 (.pointer (some ⟨g, plc L b * 33 + 1, none⟩)) (.agg (U8 v).toArray)).run Try.prog (w4.setCell ⟨Q, 1, none⟩ (.slice (some ⟨g, 0, none⟩) (L.length + 1) c)).drew = .ok () W') := hst
      have hD : Below (w4.setCell ⟨Q, 1, none⟩ (.slice (some ⟨g, 0, none⟩) (L.length + 1) c)).heap.size (w4.setCell ⟨Q, 1, none⟩ (.slice (some ⟨g, 0, none⟩) (L.length + 1) c)) (w4.setCell ⟨Q, 1, none⟩ (.slice (some ⟨g, 0, none⟩) (L.length + 1) c)).drew := below_drawn 1
      have AD : BAt (w4.setCell ⟨Q, 1, none⟩ (.slice (some ⟨g, 0, none⟩) (L.length + 1) c)).drew Q pf cf F (.slice (some ⟨g, 0, none⟩) (L.length + 1) c) (L.take (plc L b) ++ [⟨b, zs 32⟩] ++ L.drop (plc L b)) := A5.later hD
      have VD : VAt (w4.setCell ⟨Q, 1, none⟩ (.slice (some ⟨g, 0, none⟩) (L.length + 1) c)).drew w.heap.size v := V5
      have hnew : ∀ g', (Value.slice (some ⟨g, 0, none⟩) (L.length + 1) c).ownBlock = some g' → vi.ownBlock = some g' ∨ w3.heap.size ≤ g' := fun g' hg' => by
        rcases hN with e | e
        · exact .inl (e ▸ hg')
        · rw [e] at hg'; cases hg'; exact .inr (Nat.le_refl _)
      have HFIN : Hid (Wrt w W' Q pf cf F vi (.slice (some ⟨g, 0, none⟩) (L.length + 1) c) (pt L b v)) := by
        refine ⟨by rw [HPT.out]; exact AD.grew ho hgr, ?_, fun g' hg' => (hnew g' hg').imp_right fun e => Nat.le_trans HB3.out.size e⟩
        have k6 := K5.trans (Kept.of_below (fun k => k = Q ∨ vi.ownBlock = some k) hD) (fun x _ e => e)
        have k7 := k6.trans (O.kept_grown (v := .slice (some ⟨g, 0, none⟩) (L.length + 1) c) hgr) (fun x hx e => by
          rcases hnew x e with e | e
          · exact .inr e
          · omega)
        exact (Kept.of_below _ HB3.out).trans k7 (fun x _ e => e)
      have HS1 : Hid ((w4.setCell ⟨Q, 1, none⟩ (.slice (some ⟨g, 0, none⟩) (L.length + 1) c)).drew.cell? ⟨Q, 1, none⟩ = some (.slice (some ⟨g, 0, none⟩) (L.length + 1) c) ∧ VAt (w4.setCell ⟨Q, 1, none⟩ (.slice (some ⟨g, 0, none⟩) (L.length + 1) c)).drew w.heap.size v) := ⟨AD.c1, VD⟩
      have HS2 : Hid (W'.cell? ⟨Q, 1, none⟩ = some (.slice (some ⟨g, 0, none⟩) (L.length + 1) c) ∧ VAt W' w.heap.size v) := ⟨HFIN.out.at'.c1, (hgr.block _ (LAt.lt VD) (fun e => O.own_not AD.row VD (by decide) e.symm)).trans VD⟩
      have i1 : ((plc L b : Nat) : Int) < (L.length : Int) + 1 := by omega
      have i0 : (0 : Int) ≤ ((plc L b : Nat) : Int) := by omega
      clear hst ho hgr rD A5 HPT HV3 HB3 AD VD hD hnew hwf5 hset5 hx5 hlen5 V5 K5 vne k4 f4 st4 hO hK hN HA3 HINS hx0 A4
      generalize plc L b = k at *
      go_wp2_with fail
      refine wp_region_noPanic ?_
      refine wp_region_held_drew (S := fun W => W.cell? ⟨Q, 1, none⟩ = some (.slice (some ⟨g, 0, none⟩) (L.length + 1) c) ∧ VAt W w.heap.size v) (by kernel_rfl) HS1.out (fun hHeld => ?_)
      refine wpAnyH_take (i := 0) (v := ?va8) (by simp; rfl) (by kernel_rfl) (by kernel_rfl) (by kernel_rfl) (fun _ _ _ h => h) (Or.inl ⟨by rfl, ?ya8⟩) hHeld ?ra8
      case ya8 => intro w hSw; clear hSw; go_simp; with_reducible rfl
      simp only [Act.put, List.setIfInBounds_toArray, List.set_cons_zero, List.set_cons_succ]
      refine wpAnyH_take (i := 1) (v := ?va9) (by simp; rfl) (by kernel_rfl) (by kernel_rfl) (by kernel_rfl) (fun _ _ _ h => h) (Or.inl ⟨by rfl, ?ya9⟩) hHeld ?ra9
      case ya9 => intro w hSw; clear hSw; go_simp; with_reducible rfl
      simp only [Act.put, List.setIfInBounds_toArray, List.set_cons_zero, List.set_cons_succ]
      refine wpAnyH_take (i := 2) (v := ?va10) (by simp; rfl) (by kernel_rfl) (by kernel_rfl) (by kernel_rfl) (fun _ _ _ h => h) (Or.inl ⟨by rfl, ?ya10⟩) hHeld ?ra10
      case ya10 => intro w hSw; clear hSw; go_simp; with_reducible rfl
      simp only [Act.put, List.setIfInBounds_toArray, List.set_cons_zero, List.set_cons_succ]
      refine wpAnyH_take (i := 3) (v := ?va11) (by simp; rfl) (by kernel_rfl) (by kernel_rfl) (by kernel_rfl) (fun _ _ _ h => h) (Or.inl ⟨by rfl, ?ya11⟩) hHeld ?ra11
      case ya11 => intro w hSw; have z := hSw.1; clear hSw; go_simp; with_reducible rfl
      simp only [Act.put, List.setIfInBounds_toArray, List.set_cons_zero, List.set_cons_succ]
      refine wpAnyH_take (i := 4) (v := ?va12) (by simp; rfl) (by kernel_rfl) (by kernel_rfl) (by kernel_rfl) (fun _ _ _ h => h) (Or.inl ⟨by rfl, ?ya12⟩) hHeld ?ra12
      case ya12 => intro w hSw; clear hSw; go_simp; with_reducible rfl
      simp only [Act.put, List.setIfInBounds_toArray, List.set_cons_zero, List.set_cons_succ]
      refine wpAnyH_take (i := 5) (v := _) (by simp; rfl) (by kernel_rfl) (by kernel_rfl) (by kernel_rfl) (fun _ _ _ h => h) (yieldsIf_load_mid (by rfl) 31 (.tmp 5) rfl w.heap.size 0 rfl (U8 v) _ (fun W hW => LAt.range hW.2) Try.underlying31 rfl (by rw [sizeV, HVL.out])) hHeld ?_
      simp only [Act.put, List.setIfInBounds_toArray, List.set_cons_zero, List.set_cons_succ]
      refine wpAnyH_take (i := 6) (v := ?va13) (by simp; rfl) (by kernel_rfl) (by kernel_rfl) (by kernel_rfl) (fun _ _ _ h => h) (Or.inl ⟨by rfl, ?ya13⟩) hHeld ?ra13
      case ya13 => intro w hSw; clear hSw; go_simp; with_reducible rfl
      simp only [Act.put, List.setIfInBounds_toArray, List.set_cons_zero, List.set_cons_succ]
      refine wpAnyH_take (i := 7) (v := ?va14) (by simp; rfl) (by kernel_rfl) (by kernel_rfl) (by kernel_rfl) (fun _ _ _ h => h) (Or.inl ⟨by rfl, ?ya14⟩) hHeld ?ra14
      case ya14 => intro w hSw; clear hSw; go_simp; with_reducible rfl
      simp only [Act.put, List.setIfInBounds_toArray, List.set_cons_zero, List.set_cons_succ]
      refine wpAnyH_ready (rs := [8]) (by kernel_rfl) (by simp) ?_
      refine AllReadyH.cons (by simp; rfl) (fun Kc hKc => ?_) AllReadyH.nil
      refine step_store_is rfl 31 rfl rfl rfl HST.out ?_
      refine hKc.out _ _ HS2.out (fun hHeld => ?_)
      clear hKc Kc hHeld
      simp only [Act.put]
      refine wpAnyH_done (by kernel_rfl) (NoPanic.normal ?_) _
      go_wp2
      go_ret
      exact ⟨by rw [HR.out]; rfl, _, by rw [HW.out]; exact HFIN.out⟩
  · have HR : Hid (refS F b = 160) := refS_out hb
    have HW : Hid (wrS F L b v = L) := if_neg (by rw [has_out hb]; decide)
    clear hb
    go_wp2_with fail
    refine (refuses_at HA1.out hF b).mono ?_
    rintro e w' ⟨rfl, rfl⟩
    rw [HR.out]
    go_wp2_with fail
    go_ret
    exact ⟨by rw [HR.out]; rfl, vi, by rw [HW.out]; exact ⟨HA1.out, Kept.of_below _ HB1.out, fun g hg => .inl hg⟩⟩
set_option maxHeartbeats 2000000 in
set_option maxRecDepth 100000 in
theorem write_nil (b : Int) (v : List Int) (w : World) : Calls Try.prog 9 #[.pointer none, .int .i64 b, .agg (U8 v).toArray] w fun e w' => e = .returned (.int .i64 1) ∧ Below w.heap.size w w' := by
  have HB : Hid (Below w.heap.size w (w.alloc (.cells (U8 v).toArray 31))) := below_alloc w _
  go_enter Try.func9, Try.ntmps9
  go_wp2_with (go_at_call 25; refine (refuses_nil b _).mono ?_; rintro e w' ⟨rfl, rfl⟩)
  go_ret
  exact ⟨rfl, HB.out⟩
end
end Go.Proofs.Ythgkdpniaednaaa
