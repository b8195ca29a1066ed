/-
  Layer 16: a step: Write.
-/
import Derived.Test.YthgkdpniaednaaaTd
namespace Go.Proofs.Ythgkdpniaednaaa
open Go.RowKit

open B (I64)
namespace W
/-- one buffer has turned on both sides -/
theorem Sh.both {T T' : Nat → Th} {F : Nat → List Int} {D : Nat → List Im} {fl : Bool} {N N' a j : Nat} {Q cf R cs : Nat} {pf ps : Option Addr} {vi vw : Value} {f : List Int} {d : List Im} (h : Sh T F D fl N a) (hj : j < 2) (hN : N ≤ N') (e1 : T' j = .buf Q pf cf f vi (ims f d)) (e2 : T' (j + 2) = .ref R ps cs f vw d) (he : ∀ i, i < 7 → i ≠ j → i ≠ j + 2 → T' i = T i) (hi : B.isS f = true) (hw : ImsWf d) (hl : d.length ≤ N') : Sh T' (put F j f) (put D j d) fl N' a := by
  refine ⟨fun i hi => ?_, fun i hi => ?_, fun i hi2 => ?_, fun i hi2 => ?_, ?_, ?_⟩
  · by_cases e : i = j
    · subst e; rw [put_same, put_same]; exact ⟨_, _, _, _, e1⟩
    · rw [put_other _ _ e, put_other _ _ e, he i (by omega) e (by omega)]; exact h.buf i hi
  · by_cases e : i = j
    · subst e; rw [put_same, put_same]; exact ⟨_, _, _, _, e2⟩
    · rw [put_other _ _ e, put_other _ _ e, he (i + 2) (by omega) (by omega) (by omega)]; exact h.ref i hi
  · by_cases e : i = j
    · subst e; rw [put_same]; exact hi
    · rw [put_other _ _ e]; exact h.is i hi2
  · by_cases e : i = j
    · subst e; rw [put_same]; exact ⟨hw, hl⟩
    · rw [put_other _ _ e]; have := h.wf i hi2; exact ⟨this.1, by omega⟩
  · rw [he 4 (by omega) (by omega) (by omega), he 5 (by omega) (by omega) (by omega)]; exact h.im
  · rw [he 6 (by omega) (by omega) (by omega)]; exact h.fo
theorem pcs_same {T T' : Nat → Th} (h : ∀ i, i < 7 → (T' i).val = (T i).val) : pcs T' = pcs T := by
  simp only [pcs, h 0 (by omega), h 1 (by omega), h 2 (by omega), h 3 (by omega), h 4 (by omega), h 5 (by omega), h 6 (by omega)]
theorem wrD_wf {F : List Int} {D : List Im} {b : Int} {v : List Int} (h : ImsWf D) (hx : Im.Wf ⟨b, v⟩) : ImsWf (wrD F D b v) ∧ (wrD F D b v).length ≤ D.length + 1 := by
  unfold wrD
  split
  · exact ⟨h.snoc hx, by simp⟩
  · exact ⟨h, by omega⟩
section
variable {w0 w : World} {P N a : Nat} {F : Nat → List Int} {D : Nat → List Im} {fl : Bool}
set_option maxHeartbeats 2000000 in
set_option maxRecDepth 100000 in
theorem plays_write (h : St w0 w P F D fl N a) (hN : N ≤ 8000) (_ha : a ≤ 8000) (wh b : Int) (v : List Int) (hv : Im.Wf ⟨b, v⟩) : Calls Try.prog 19 #[.pointer (some ⟨P, 0, none⟩), .agg (ocells 1 wh b v).toArray] w fun e w' => e = .returned (.bool true) ∧ ∃ F' D', St w0 w' P F' D' fl (N + 1) (a + 2) := by
  obtain ⟨w1, hw1⟩ : ∃ w1, w1 = w.alloc (.cells (ocells 1 wh b v).toArray 58) := ⟨_, rfl⟩
  have B1 : Below w.heap.size w w1 := by rw [hw1]; exact below_alloc w _
  have HO1 : Hid (LAt 58 w1 w.heap.size (ocells 1 wh b v)) := by rw [hw1]; exact LAt.new _ _ _
  have hw1' := hw1.symm
  have t2 := tmod2 wh
  have s2 := sl2_is wh
  have l2 := sl2_lt wh
  have k0 : w1.cell? ⟨w.heap.size, 0, none⟩ = some (.int .i64 1) := by rw [LAt.cell HO1.out]; rfl
  have k1 : w1.cell? ⟨w.heap.size, 1, none⟩ = some (.int .i64 wh) := by rw [LAt.cell HO1.out]; rfl
  obtain ⟨T, G, Q, pf, cf, vi, R, ps, cs, vw, hp, hs, eb, er, -, -, hC⟩ := h.two l2
  have HEB : Hid (T (sl2 wh) = .buf Q pf cf (F (sl2 wh)) vi (ims (F (sl2 wh)) (D (sl2 wh)))) := eb
  have HER : Hid (T (sl2 wh + 2) = .ref R ps cs (F (sl2 wh)) vw (D (sl2 wh))) := er
  have HSH : Hid (Sh T F D fl N a) := hs
  have HPB : Hid (PS w0 w1 P (pcs T) (put T 14 (.lat 58 w.heap.size (ocells 1 wh b v))) G) := hp.fresh B1 14 HO1.out (fun b hb => by rw [show b = w.heap.size from hb]; exact Nat.le_refl _)
  have HC : Hid (∀ W, Below w1.heap.size w1 W → W.cell? ⟨P, sl2 wh, none⟩ = some (.pointer (some ⟨Q, 0, none⟩)) ∧ W.cell? ⟨P, 2 + sl2 wh, none⟩ = some (.pointer (some ⟨R, 0, none⟩))) := fun W hW => hC W (below_then B1 hW)
  clear hw1 h B1 hp hs eb er hC
  go_enter Try.func19, Try.ntmps19
  go_wp2_with ((with_reducible refine at_ops ?_); (refine wpList_box_is (by rfl) 58 rfl _ rfl hw1' ?_); simp only [Act.put, List.setIfInBounds_toArray, List.set_cons_zero, List.set_cons_succ])
  rw [s2]
  clear hw1' k1 s2 t2
  generalize sl2 wh = j at *
  generalize w.heap.size = bo at *
  have j0 : (0 : Int) ≤ (j : Int) := by omega
  have j1 : (j : Int) < 2 := by omega
  refine wp_region_noPanic ?_
  refine wp_region_held_drew (S := fun W => Below w1.heap.size w1 W) (by kernel_rfl) (below_drawn 1) (fun hHeld => ?_)
  have HBD : Hid (Below w1.heap.size w1 w1.drew) := hHeld
  have k0 : w1.drew.cell? ⟨bo, 0, none⟩ = some (.int .i64 1) := by rw [LAt.cell (LAt.later HO1.out HBD.out)]; rfl
  have k2 : w1.drew.cell? ⟨bo, 2, none⟩ = some (.int .i64 b) := by rw [LAt.cell (LAt.later HO1.out HBD.out)]; rfl
  have HPD : Hid (PS w0 w1.drew P (pcs T) (put T 14 (.lat 58 bo (ocells 1 wh b v))) G) := HPB.out.later HBD.out
  have HSD : Hid (St w0 w1.drew P F D fl N a) := ⟨_, G, by rw [pcs_loose (T := T) (k := 14) (by decide)]; exact HPD.out, HSH.out.loose (by decide)⟩
  clear HPB
  generalize w1.drew = wD at *
  refine wpAnyH_take (i := 0) (v := ?va1) (by simp; rfl) (by kernel_rfl) (by kernel_rfl) (by kernel_rfl) (fun _ _ _ h => h) (Or.inl ⟨by rfl, ?ya1⟩) hHeld ?ra1
  case ya1 => intro w hSw; clear hSw; go_simp; with_reducible rfl
  simp only [Act.put, List.setIfInBounds_toArray, List.set_cons_zero, List.set_cons_succ]
  refine wpAnyH_take (i := 1) (v := ?va2) (by simp; rfl) (by kernel_rfl) (by kernel_rfl) (by kernel_rfl) (fun _ _ _ h => h) (Or.inl ⟨by rfl, ?ya2⟩) hHeld ?ra2
  case ya2 => intro w hSw; clear hSw; go_simp; with_reducible rfl
  simp only [Act.put, List.setIfInBounds_toArray, List.set_cons_zero, List.set_cons_succ]
  refine wpAnyH_take (i := 2) (v := ?va3) (by simp; rfl) (by kernel_rfl) (by kernel_rfl) (by kernel_rfl) (fun _ _ _ h => h) (Or.inl ⟨by rfl, ?ya3⟩) hHeld ?ra3
  case ya3 => intro w hSw; clear hSw; go_simp; with_reducible rfl
  simp only [Act.put, List.setIfInBounds_toArray, List.set_cons_zero, List.set_cons_succ]
  refine wpAnyH_take (i := 3) (v := ?va4) (by simp; rfl) (by kernel_rfl) (by kernel_rfl) (by kernel_rfl) (fun _ _ _ h => h) (Or.inl ⟨by rfl, ?ya4⟩) hHeld ?ra4
  case ya4 => intro w hSw; clear hSw; go_simp; with_reducible rfl
  simp only [Act.put, List.setIfInBounds_toArray, List.set_cons_zero, List.set_cons_succ]
  refine wpAnyH_take (i := 4) (v := ?va5) (by simp; rfl) (by kernel_rfl) (by kernel_rfl) (by kernel_rfl) (fun _ _ _ h => h) (Or.inl ⟨by rfl, ?ya5⟩) hHeld ?ra5
  case ya5 => intro w hSw; clear hSw; go_simp; with_reducible rfl
  simp only [Act.put, List.setIfInBounds_toArray, List.set_cons_zero, List.set_cons_succ]
  refine wpAnyH_take (i := 5) (v := ?va6) (by simp; rfl) (by kernel_rfl) (by kernel_rfl) (by kernel_rfl) (fun _ _ _ h => h) (Or.inl ⟨by rfl, ?ya6⟩) hHeld ?ra6
  case ya6 => intro w hSw; obtain ⟨z0, z2⟩ := HC.out w hSw; clear hSw; go_simp; with_reducible rfl
  simp only [Act.put, List.setIfInBounds_toArray, List.set_cons_zero, List.set_cons_succ]
  refine wpAnyH_take (i := 6) (v := ?va7) (by simp; rfl) (by kernel_rfl) (by kernel_rfl) (by kernel_rfl) (fun _ _ _ h => h) (Or.inl ⟨by rfl, ?ya7⟩) hHeld ?ra7
  case ya7 => intro w hSw; clear hSw; go_simp; with_reducible rfl
  simp only [Act.put, List.setIfInBounds_toArray, List.set_cons_zero, List.set_cons_succ]
  refine wpAnyH_take (i := 7) (v := ?va8) (by simp; rfl) (by kernel_rfl) (by kernel_rfl) (by kernel_rfl) (fun _ _ _ h => h) (Or.inl ⟨by rfl, ?ya8⟩) hHeld ?ra8
  case ya8 => intro w hSw; clear hSw; go_simp; with_reducible rfl
  simp only [Act.put, List.setIfInBounds_toArray, List.set_cons_zero, List.set_cons_succ]
  refine wpAnyH_take (i := 8) (v := ?va9) (by simp; rfl) (by kernel_rfl) (by kernel_rfl) (by kernel_rfl) (fun _ _ _ h => h) (Or.inl ⟨by rfl, ?ya9⟩) hHeld ?ra9
  case ya9 => intro w hSw; clear hSw; go_simp; with_reducible rfl
  simp only [Act.put, List.setIfInBounds_toArray, List.set_cons_zero, List.set_cons_succ]
  refine wpAnyH_take (i := 9) (v := ?va10) (by simp; rfl) (by kernel_rfl) (by kernel_rfl) (by kernel_rfl) (fun _ _ _ h => h) (Or.inl ⟨by rfl, ?ya10⟩) hHeld ?ra10
  case ya10 => intro w hSw; clear hSw; go_simp; with_reducible rfl
  simp only [Act.put, List.setIfInBounds_toArray, List.set_cons_zero, List.set_cons_succ]
  refine wpAnyH_take (i := 10) (v := ?va11) (by simp; rfl) (by kernel_rfl) (by kernel_rfl) (by kernel_rfl) (fun _ _ _ h => h) (Or.inl ⟨by rfl, ?ya11⟩) hHeld ?ra11
  case ya11 => intro w hSw; clear hSw; go_simp; with_reducible rfl
  simp only [Act.put, List.setIfInBounds_toArray, List.set_cons_zero, List.set_cons_succ]
  refine wpAnyH_take (i := 11) (v := ?va12) (by simp; rfl) (by kernel_rfl) (by kernel_rfl) (by kernel_rfl) (fun _ _ _ h => h) (Or.inl ⟨by rfl, ?ya12⟩) hHeld ?ra12
  case ya12 => intro w hSw; obtain ⟨z0, z2⟩ := HC.out w hSw; clear hSw; go_simp; with_reducible rfl
  simp only [Act.put, List.setIfInBounds_toArray, List.set_cons_zero, List.set_cons_succ]
  refine wpAnyH_take (i := 12) (v := ?va13) (by simp; rfl) (by kernel_rfl) (by kernel_rfl) (by kernel_rfl) (fun _ _ _ h => h) (Or.inl ⟨by rfl, ?ya13⟩) hHeld ?ra13
  case ya13 => intro w hSw; clear hSw; go_simp; with_reducible rfl
  simp only [Act.put, List.setIfInBounds_toArray, List.set_cons_zero, List.set_cons_succ]
  refine wpAnyH_take (i := 13) (v := ?va14) (by simp; rfl) (by kernel_rfl) (by kernel_rfl) (by kernel_rfl) (fun _ _ _ h => h) (Or.inl ⟨by rfl, ?ya14⟩) hHeld ?ra14
  case ya14 => intro w hSw; clear hSw; go_simp; with_reducible rfl
  simp only [Act.put, List.setIfInBounds_toArray, List.set_cons_zero, List.set_cons_succ]
  refine wpAnyH_done (by kernel_rfl) (NoPanic.normal ?_) _
  clear hHeld
  clear HSD
  have hbD : Below wD.heap.size wD wD.drew := below_drawn 1
  have HLA : Hid (LAt 58 wD.drew bo (ocells 1 wh b v)) := LAt.later (LAt.later HO1.out HBD.out) hbD
  obtain ⟨TB, hTB⟩ : ∃ TB, TB = put T 14 (.lat 58 bo (ocells 1 wh b v)) := ⟨_, rfl⟩
  rw [← hTB] at HPD
  have hpd := HPD.out.later hbD
  clear HPD
  have HPD : Hid (PS w0 wD.drew P (pcs T) TB G) := hpd
  have hTi : ∀ i, i < 7 → TB i = T i := fun i hi => by rw [hTB, put_other _ _ (by omega)]
  have ebB : Hid (TB j = .buf Q pf cf (F j) vi (ims (F j) (D j))) := by show _ = _; rw [hTi j (by omega)]; exact HEB.out
  have erB : Hid (TB (j + 2) = .ref R ps cs (F j) vw (D j)) := by show _ = _; rw [hTi (j + 2) (by omega)]; exact HER.out
  have ebO : Hid (TB 14 = .lat 58 bo (ocells 1 wh b v)) := by rw [hTB]; exact put_same _ _ _
  have HTI : Hid (∀ i, i < 7 → TB i = T i) := hTi
  have HGB : Hid (∀ a, pf = some a → G a.block) := (hpd.buf (by omega) ebB.out).2
  have HA : Hid (BAt wD.drew Q pf cf (F j) vi (ims (F j) (D j))) := (hpd.buf (by omega) ebB.out).1
  have HK : Hid (Okb (F j) (ims (F j) (D j))) := HSH.out.okb l2
  have HIS : Hid (B.isS (F j) = true) := HSH.out.is j l2
  have HWF : Hid (ImsWf (D j) ∧ (D j).length ≤ 9000) := ⟨(HSH.out.wf j l2).1, by have := (HSH.out.wf j l2).2; omega⟩
  have HDL : Hid ((D j).length ≤ N) := (HSH.out.wf j l2).2
  have HXW : Hid (Im.Wf ⟨b, v⟩) := hv
  have HXB : Hid (∀ W, LAt 58 W bo (ocells 1 wh b v) → W.cell? ⟨bo, 2, none⟩ = some (.int .i64 b)) := fun W hW => by rw [LAt.cell hW]; rfl
  have HXV : Hid (∀ W, LAt 58 W bo (ocells 1 wh b v) → W.rangeAt bo 3 (U8 v)) := fun W hW k y hk => by
    rw [LAt.cell hW, Nat.add_comm 3 k]
    exact hk
  clear hpd hTB hTi hbD hv HO1 HBD HC k2
  generalize hF : F j = Fj at *
  generalize hD : D j = Dj at *
  go_wp2_with fail
  clear k0
  refine wp_region_noPanic ?_
  refine wp_region_held_drew (S := fun W => LAt 58 W bo (ocells 1 wh b v)) (by kernel_rfl) HLA.out (fun hHeld => ?_)
  generalize wD.drew = xD at *
  refine wpAnyH_take (i := 0) (v := ?va15) (by simp; rfl) (by kernel_rfl) (by kernel_rfl) (by kernel_rfl) (fun _ _ _ h => h) (Or.inl ⟨by rfl, ?ya15⟩) hHeld ?ra15
  case ya15 => intro w hSw; clear hSw; go_simp; with_reducible rfl
  simp only [Act.put, List.setIfInBounds_toArray, List.set_cons_zero, List.set_cons_succ]
  refine wpAnyH_take (i := 1) (v := ?va16) (by simp; rfl) (by kernel_rfl) (by kernel_rfl) (by kernel_rfl) (fun _ _ _ h => h) (Or.inl ⟨by rfl, ?ya16⟩) hHeld ?ra16
  case ya16 => intro w hSw; clear hSw; go_simp; with_reducible rfl
  simp only [Act.put, List.setIfInBounds_toArray, List.set_cons_zero, List.set_cons_succ]
  refine wpAnyH_take (i := 2) (v := ?va17) (by simp; rfl) (by kernel_rfl) (by kernel_rfl) (by kernel_rfl) (fun _ _ _ h => h) (Or.inl ⟨by rfl, ?ya17⟩) hHeld ?ra17
  case ya17 => intro w hSw; have z := HXB.out w hSw; clear hSw; go_simp; with_reducible rfl
  simp only [Act.put, List.setIfInBounds_toArray, List.set_cons_zero, List.set_cons_succ]
  refine wpAnyH_take (i := 3) (v := ?va18) (by simp; rfl) (by kernel_rfl) (by kernel_rfl) (by kernel_rfl) (fun _ _ _ h => h) (Or.inl ⟨by rfl, ?ya18⟩) hHeld ?ra18
  case ya18 => intro w hSw; clear hSw; go_simp; with_reducible rfl
  simp only [Act.put, List.setIfInBounds_toArray, List.set_cons_zero, List.set_cons_succ]
  refine wpAnyH_take (i := 4) (v := _) (by simp; rfl) (by kernel_rfl) (by kernel_rfl) (by kernel_rfl) (fun _ _ _ h => h) (yieldsIf_load_mid (by rfl) 31 (.tmp 38) rfl bo 3 rfl (U8 v) _ (fun W hW => HXV.out W hW) Try.underlying31 rfl (by rw [sizeV, U8_length, HXW.out.len])) hHeld ?_
  simp only [Act.put, List.setIfInBounds_toArray, List.set_cons_zero, List.set_cons_succ]
  refine wpAnyH_take (i := 6) (v := ?va19) (by simp; rfl) (by kernel_rfl) (by kernel_rfl) (by kernel_rfl) (fun _ _ _ h => h) (Or.inl ⟨by rfl, ?ya19⟩) hHeld ?ra19
  case ya19 => intro w hSw; clear hSw; go_simp; with_reducible rfl
  simp only [Act.put, List.setIfInBounds_toArray, List.set_cons_zero, List.set_cons_succ]
  refine wpAnyH_take (i := 7) (v := ?va20) (by simp; rfl) (by kernel_rfl) (by kernel_rfl) (by kernel_rfl) (fun _ _ _ h => h) (Or.inl ⟨by rfl, ?ya20⟩) hHeld ?ra20
  case ya20 => intro w hSw; clear hSw; go_simp; with_reducible rfl
  simp only [Act.put, List.setIfInBounds_toArray, List.set_cons_zero, List.set_cons_succ]
  refine wpAnyH_take (i := 8) (v := ?va21) (by simp; rfl) (by kernel_rfl) (by kernel_rfl) (by kernel_rfl) (fun _ _ _ h => h) (Or.inl ⟨by rfl, ?ya21⟩) hHeld ?ra21
  case ya21 => intro w hSw; have z := HXB.out w hSw; clear hSw; go_simp; with_reducible rfl
  simp only [Act.put, List.setIfInBounds_toArray, List.set_cons_zero, List.set_cons_succ]
  refine wpAnyH_take (i := 9) (v := ?va22) (by simp; rfl) (by kernel_rfl) (by kernel_rfl) (by kernel_rfl) (fun _ _ _ h => h) (Or.inl ⟨by rfl, ?ya22⟩) hHeld ?ra22
  case ya22 => intro w hSw; clear hSw; go_simp; with_reducible rfl
  simp only [Act.put, List.setIfInBounds_toArray, List.set_cons_zero, List.set_cons_succ]
  refine wpAnyH_take (i := 10) (v := _) (by simp; rfl) (by kernel_rfl) (by kernel_rfl) (by kernel_rfl) (fun _ _ _ h => h) (yieldsIf_load_mid (by rfl) 31 (.tmp 44) rfl bo 3 rfl (U8 v) _ (fun W hW => HXV.out W hW) Try.underlying31 rfl (by rw [sizeV, U8_length, HXW.out.len])) hHeld ?_
  simp only [Act.put, List.setIfInBounds_toArray, List.set_cons_zero, List.set_cons_succ]
  refine wpAnyH_ready (rs := [5]) (by kernel_rfl) (by simp) ?_
  refine AllReadyH.cons (by simp; rfl) (fun Kc hKc => ?_) AllReadyH.nil
  go_simp
  refine (write_at HA.out HK.out (b := b) (v := v) HXW.out).mono ?_
  rintro e w4 ⟨rfl, v4, hW⟩
  have HP4 : Hid (PS w0 w4 P (pcs T) (put TB j (.buf Q pf cf Fj v4 (wrS Fj (ims Fj Dj) b v))) G) := HPD.out.turn (i := j) (by omega) ⟨hW.at', HGB.out⟩ hW.kept (fun k hk => by rw [ebB.out]; exact hk) (fun k hk => by
    rw [ebB.out]
    rcases hk with hk | hk
    · exact .inl (.inl hk)
    · exact (hW.new k hk).elim (fun e => .inl (.inr e)) (fun e => .inr e)) (fun _ hg => hg) (fun _ hg => .inl hg)
  have HL4 : LAt 58 w4 bo (ocells 1 wh b v) := HP4.out.lat (k := 14) (by decide) (by rw [put_other _ _ (by omega)]; exact ebO.out)
  have HR4 : Hid (RAt w4 R ps cs Fj vw Dj ∧ ∀ a, ps = some a → G a.block) := HP4.out.ref (j := j + 2) (by omega) (by rw [put_other _ _ (by omega)]; exact erB.out)
  refine hKc.out _ _ HL4 (fun hHeld => ?_)
  clear hKc Kc hW

  refine wpAnyH_ready (rs := [11]) (by kernel_rfl) (by simp) ?_
  refine AllReadyH.cons (by simp; rfl) (fun Kc hKc => ?_) AllReadyH.nil
  go_simp
  refine (rwrite_at HR4.out.1 HIS.out HWF.out.1 HWF.out.2 (b := b) (v := v) HXW.out).mono ?_
  rintro e w5 ⟨rfl, v5, hA5, hk5, hn5⟩
  have HP5 : Hid (PS w0 w5 P (pcs T) (put (put TB j (.buf Q pf cf Fj v4 (wrS Fj (ims Fj Dj) b v))) (j + 2) (.ref R ps cs Fj v5 (wrD Fj Dj b v))) G) := HP4.out.turn (i := j + 2) (by omega) ⟨hA5, HR4.out.2⟩ hk5 (fun k hk => by rw [put_other _ _ (by omega), erB.out]; exact hk) (fun k hk => by
    rw [put_other _ _ (by omega), erB.out]
    rcases hk with hk | hk
    · exact .inl (.inl hk)
    · exact (hn5 k hk).elim (fun e => .inl (.inr e)) (fun e => .inr e)) (fun _ hg => hg) (fun _ hg => .inl hg)
  have HL5 : LAt 58 w5 bo (ocells 1 wh b v) := HP5.out.lat (k := 14) (by decide) (by rw [put_other _ _ (by omega), put_other _ _ (by omega)]; exact ebO.out)
  refine hKc.out _ _ HL5 (fun hHeld => ?_)
  clear hKc Kc hA5 hk5 hn5

  refine wpAnyH_take (i := 12) (v := ?va23) (by simp; rfl) (by kernel_rfl) (by kernel_rfl) (by kernel_rfl) (fun _ _ _ h => h) (Or.inl ⟨by rfl, ?ya23⟩) hHeld ?ra23
  case ya23 => intro w hSw; clear hSw; go_simp; with_reducible rfl
  simp only [Act.put, List.setIfInBounds_toArray, List.set_cons_zero, List.set_cons_succ]
  refine wpAnyH_take (i := 13) (v := ?va24) (by simp; rfl) (by kernel_rfl) (by kernel_rfl) (by kernel_rfl) (fun _ _ _ h => h) (Or.inl ⟨by rfl, ?ya24⟩) hHeld ?ra24
  case ya24 => intro w hSw; clear hSw; go_simp; with_reducible rfl
  simp only [Act.put, List.setIfInBounds_toArray, List.set_cons_zero, List.set_cons_succ]
  refine wpAnyH_done (by kernel_rfl) (NoPanic.normal ?_) _
  have hqq : (refS Fj b == refS Fj b) = true := by simp
  try rw [hqq]
  go_wp2_with fail
  go_ret
  have hwe : wrS Fj (ims Fj Dj) b v = ims Fj (wrD Fj Dj b v) := wr_ims HIS.out b v
  have hp5 := HP5.out
  rw [hwe] at hp5
  have hz : St w0 w5 P (put F j Fj) (put D j (wrD Fj Dj b v)) fl (N + 1) a := by
    refine ⟨put (put TB j (.buf Q pf cf Fj v4 (ims Fj (wrD Fj Dj b v)))) (j + 2) (.ref R ps cs Fj v5 (wrD Fj Dj b v)), G, ?_, HSH.out.both l2 (Nat.le_succ N) (by rw [put_other _ _ (by omega), put_same]) (by rw [put_same]) (fun i hi h1 h2 => by rw [put_other _ _ h2, put_other _ _ h1]; exact HTI.out i hi) HIS.out (wrD_wf HWF.out.1 HXW.out).1 (by have := (wrD_wf (F := Fj) HWF.out.1 HXW.out).2; have := HDL.out; omega)⟩
    rw [pcs_same (T := T) (fun i hi => ?_)]
    · exact hp5
    · by_cases e1 : i = j + 2
      · subst e1; rw [put_same, HER.out]; rfl
      · rw [put_other _ _ e1]
        by_cases e2 : i = j
        · subst e2; rw [put_same, HEB.out]; rfl
        · rw [put_other _ _ e2, HTI.out i hi]
  exact ⟨rfl, _, _, hz.mono (Nat.le_refl _) (by omega)⟩
end
end W
end Go.Proofs.Ythgkdpniaednaaa
