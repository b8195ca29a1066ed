/-
  Layer 7, the laws' own num and awake.
-/
import Derived.Test.YtcfofoddfhbkcaaDoorRc
import Derived.Test.YtcfofoddfhbkcaaDoorRf
namespace Go.Proofs.YtcfofoddfhbkcaaDoor
open Go.RowKit

set_option maxHeartbeats 400000 in
theorem num_any (n : Int) (h1 : i64 n) (w : World) :
    Calls Tryd.prog 12 #[.int .i64 n] w fun e w' => e = .returned (.int .i64 n) ∧ w = w' := by
  obtain ⟨a, b⟩ := h1
  go_enter Tryd.func12, Tryd.ntmps12
  go_wp2
  go_ret
  exact ⟨rfl, rfl⟩
theorem chk_i64 (s : Sup) : i64 (chk s) := by
  by_cases h : May s
  · rw [chk_yes s h]; decide
  · rcases chk_no s h with h | h <;> rw [h] <;> decide
theorem cfg_i64 (s : Sup) : i64 (cfg s) := by
  by_cases h : MayC s
  · rw [cfg_yes s h]; decide
  · rw [cfg_no s h]; decide
theorem dec_i64 (bs : List Int) : i64 (decS bs).2 := by
  by_cases h : bs.length = 64
  · by_cases hg : Good bs
    · rw [decS_ok bs h hg]; show i64 0; decide
    · rw [decS_bad bs h hg]; show i64 70; decide
  · rw [decS_len bs h]; show i64 2; decide
theorem field26 (w : World) (s : Sup) : (Instr.field 26 (.agg (scells s).toArray) 0).run Tryd.prog w = .ok (.agg (ccells s).toArray) w := by
  have h : (Tryd.prog.fieldsOf 26)[0]?.map (fun f => (f.type, f.offset)) = some (23, 0) := by kernel_rfl
  cases hf : (Tryd.prog.fieldsOf 26)[0]? with
  | none => rw [hf] at h; cases h
  | some f =>
    rw [hf] at h
    simp only [Option.map_some, Option.some.injEq, Prod.mk.injEq] at h
    simp only [Instr.field, Sem.run_bind, run_underlying flds26, Result.andThen_ok, hf, asAgg, Sem.run_pure, h.1, h.2, part23]
theorem yields_field_is {P : Program} {ops : Array Oper} {S : World → Prop} {o : Oper} {a : Act} (hw : Region.wanted o (yielded ops a.tmps) = true) (ty : TypeId) {x : Operand} {k : Nat} (ho : o.op = .field ty x k) {u v : Value} (hx : a.eval x = u) (hrun : ∀ w, (Instr.field ty u k).run P w = .ok v w) : YieldsIf P ops S o v a :=
  .inl ⟨hw, fun w _ => by unfold execOp; simp only [ho, hx, Sem.run_bind, hrun w, Result.andThen_ok, Sem.run_pure]⟩
theorem sm_wf : sm.Wf := ⟨by decide, by decide, by decide, by decide, by decide, by decide, by decide⟩
theorem sm_may : May sm := by decide
theorem cfg0 : cfg sup0 = 3 := by decide
theorem run_conv_is {P : Program} {o : Oper} {a : Act} {w : World} {K : Act → World → Prop} {Q : Exit → Act → World → Prop} (f t : TypeId) {x : Operand} (ho : o.op = .convert f t x) {u v : Value} (hx : a.eval x = u) (hrun : (convert f t u).run P w = .ok v w) (h : K (a.put o.dst v) w) : o.wp P a w K Q := by
  have e : (execOp a.eval o).run P w = .ok (.value v) w := by unfold execOp; simp only [ho, hx, Sem.run_bind, hrun, Result.andThen_ok, Sem.run_pure]
  unfold Oper.wp; rw [e]; exact h

set_option maxHeartbeats 8000000 in
set_option maxRecDepth 100000 in
theorem awake_any (w : World) (ht : Tab w) :
    Calls Tryd.prog 9 #[] w fun e w' => e = .returned (.bool true) ∧ Below w.heap.size w w' := by
  have HT : Hid (Tab w) := ht
  clear ht
  go_enter Tryd.func9, Tryd.ntmps9
  go_wp2_with fail
  refine (small_any w).mono ?_
  rintro e w1 ⟨rfl, b1⟩
  have B1 : Hid (Below w.heap.size w w1) := b1
  clear b1
  go_wp2_with fail
  refine (back_any sm w1).mono ?_
  rintro e w2 ⟨rfl, b2⟩
  have B2 : Hid (Below w.heap.size w w2) := below_then B1.out b2
  clear b2 B1
  go_wp2_with fail
  refine (encode_good sm sm_wf sm_may w2 (HT.out.later B2.out)).mono ?_
  rintro e w3 ⟨gb, rfl, m3⟩
  have B3 : Hid (Below w.heap.size w w3) := below_then B2.out m3.below
  have E3 : Hid (BIn w3 (some ⟨gb, 0, none⟩) 64 (encS sm)) := m3.read
  clear m3 B2
  go_wp2_with fail
  refine (small_any w3).mono ?_
  rintro e w4 ⟨rfl, b4⟩
  have B4 : Hid (Below w.heap.size w w4) := below_then B3.out b4
  have E4 : Hid (BIn w4 (some ⟨gb, 0, none⟩) 64 (encS sm)) := E3.out.later b4
  clear b4 B3 E3
  go_wp2_with fail
  refine (laid_any sm sm_wf w4).mono ?_
  rintro e w5 ⟨gl, cl, rfl, m5⟩
  have B5 : Hid (Below w.heap.size w w5) := below_then B4.out m5.below
  have E5 : Hid (BIn w5 (some ⟨gb, 0, none⟩) 64 (encS sm)) := E4.out.later m5.below
  have F5 : Hid (BIn w5 (some ⟨gl, 0, none⟩) 64 (encS sm)) := m5.read
  have hcl := m5.le
  clear m5 B4 E4
  go_wp2_with fail
  refine (decode_any _ 64 cl _ w5 F5.out hcl (HT.out.later B5.out)).mono ?_
  rintro e w6 ⟨rfl, b6⟩
  rw [decS_encS sm sm_wf sm_may]
  have A6 : Hid (_) := alloc29 w6
  have S6 : Hid (_) := store_new29 w6 sm
  obtain ⟨w7, hw7⟩ : ∃ x, x = w6.alloc (.cells (scells sm).toArray 29) := ⟨_, rfl⟩
  have b67 : Below w6.heap.size w6 w7 := by rw [hw7]; exact below_alloc w6 _
  have b57 := below_then b6 b67
  have B7 : Hid (Below w.heap.size w w7) := below_then B5.out b57
  have E7 : Hid (BIn w7 (some ⟨gb, 0, none⟩) 64 (encS sm)) := E5.out.later b57
  have R7 : Hid (SAt 29 w7 w6.heap.size sm) := by rw [hw7]; exact LAt.new 29 w6 _
  rw [← hw7] at S6
  clear b6 b67 b57 hw7 E5 F5 B5
  go_wp2_with ((with_reducible refine at_ops ?_); (first | (refine wpList_alloc_is (by rfl) 29 rfl A6.out ?_) | (refine wpList_store_is (by rfl) 29 rfl rfl rfl S6.out ?_)); simp only [Act.put, List.setIfInBounds_toArray, List.set_cons_zero, List.set_cons_succ])
  clear A6 S6
  refine wp_region_noPanic ?_
  refine wp_region_held_drew (S := fun w' => Below w7.heap.size w7 w') (by kernel_rfl) (below_drawn 1) (fun hHeld => ?_)
  have D7 : Hid (Below w7.heap.size w7 w7.drew) := hHeld
  generalize w7.drew = wd at *
  refine wpAnyH_take (i := 0) (v := ?va1) (by simp; rfl) (by kernel_rfl) (by kernel_rfl) (by kernel_rfl) (fun _ _ _ h => h) (Or.inl ⟨by rfl, ?ya1⟩) hHeld ?ra1
  case ya1 => intro w hSw; clear hSw; go_simp; with_reducible rfl
  simp only [Act.put, List.setIfInBounds_toArray, List.set_cons_zero, List.set_cons_succ]
  refine wpAnyH_ready (rs := [1]) (by kernel_rfl) (by simp) ?_
  refine AllReadyH.cons (by simp; rfl) (fun Kc hKc => ?_) AllReadyH.nil
  go_simp
  refine (num_any 0 (by decide) wd).mono ?_
  rintro e wz ⟨rfl, rfl⟩
  refine hKc.out _ _ D7.out (fun hHeld => ?_)
  clear hKc Kc
  refine wpAnyH_take (i := 2) (v := ?va2) (by simp; rfl) (by kernel_rfl) (by kernel_rfl) (by kernel_rfl) (fun _ _ _ h => h) (Or.inl ⟨by rfl, ?ya2⟩) hHeld ?ra2
  case ya2 => intro w hSw; clear hSw; go_simp; with_reducible rfl
  simp only [Act.put, List.setIfInBounds_toArray, List.set_cons_zero, List.set_cons_succ]
  refine wpAnyH_take (i := 3) (v := ?va3) (by simp; rfl) (by kernel_rfl) (by kernel_rfl) (by kernel_rfl) (fun _ _ _ h => h) (Or.inl ⟨by rfl, ?ya3⟩) hHeld ?ra3
  case ya3 => intro w hSw; clear hSw; go_simp; with_reducible rfl
  simp only [Act.put, List.setIfInBounds_toArray, List.set_cons_zero, List.set_cons_succ]
  refine wpAnyH_take (i := 4) (v := ?va4) (by simp; rfl) (by kernel_rfl) (by kernel_rfl) (by kernel_rfl) (fun _ _ _ h => h) (Or.inl ⟨by rfl, ?ya4⟩) hHeld ?ra4
  case ya4 => intro w hSw; clear hSw; go_simp; with_reducible rfl
  simp only [Act.put, List.setIfInBounds_toArray, List.set_cons_zero, List.set_cons_succ]
  refine wpAnyH_ready (rs := [5]) (by kernel_rfl) (by simp) ?_
  refine AllReadyH.cons (by simp; rfl) (fun Kc hKc => ?_) AllReadyH.nil
  go_simp
  refine (num_any 0 (by decide) wd).mono ?_
  rintro e wz ⟨rfl, rfl⟩
  refine hKc.out _ _ D7.out (fun hHeld => ?_)
  clear hKc Kc
  refine wpAnyH_take (i := 6) (v := ?va5) (by simp; rfl) (by kernel_rfl) (by kernel_rfl) (by kernel_rfl) (fun _ _ _ h => h) (Or.inl ⟨by rfl, ?ya5⟩) hHeld ?ra5
  case ya5 => intro w hSw; clear hSw; go_simp; with_reducible rfl
  simp only [Act.put, List.setIfInBounds_toArray, List.set_cons_zero, List.set_cons_succ]
  refine wpAnyH_take (i := 7) (v := ?va6) (by simp; rfl) (by kernel_rfl) (by kernel_rfl) (by kernel_rfl) (fun _ _ _ h => h) (Or.inl ⟨by rfl, ?ya6⟩) hHeld ?ra6
  case ya6 => intro w hSw; clear hSw; go_simp; with_reducible rfl
  simp only [Act.put, List.setIfInBounds_toArray, List.set_cons_zero, List.set_cons_succ]
  refine wpAnyH_take (i := 8) (v := ?va7) (by simp; rfl) (by kernel_rfl) (by kernel_rfl) (by kernel_rfl) (fun _ _ _ h => h) (Or.inl ⟨by rfl, ?ya7⟩) hHeld ?ra7
  case ya7 => intro w hSw; clear hSw; go_simp; with_reducible rfl
  simp only [Act.put, List.setIfInBounds_toArray, List.set_cons_zero, List.set_cons_succ]
  refine wpAnyH_take (i := 9) (v := ?va8) (by simp; rfl) (by kernel_rfl) (by kernel_rfl) (by kernel_rfl) (fun _ _ _ h => h) (Or.inl ⟨by rfl, ?ya8⟩) hHeld ?ra8
  case ya8 => intro w hSw; clear hSw; go_simp; with_reducible rfl
  simp only [Act.put, List.setIfInBounds_toArray, List.set_cons_zero, List.set_cons_succ]
  refine wpAnyH_take (i := 10) (v := ?va9) (by simp; rfl) (by kernel_rfl) (by kernel_rfl) (by kernel_rfl) (fun _ _ _ h => h) (Or.inl ⟨by rfl, ?ya9⟩) hHeld ?ra9
  case ya9 => intro w hSw; have z1 := (E7.out.later hSw).str 64; clear hSw; go_simp; with_reducible rfl
  simp only [Act.put, List.setIfInBounds_toArray, List.set_cons_zero, List.set_cons_succ]
  refine wpAnyH_ready (rs := [11]) (by kernel_rfl) (by simp) ?_
  refine AllReadyH.cons (by simp; rfl) (fun Kc hKc => ?_) AllReadyH.nil
  go_simp
  refine (small_any wd).mono ?_
  rintro e wn10 ⟨rfl, bn⟩
  have Dn10 : Hid (Below w7.heap.size w7 wn10) := below_then D7.out bn
  clear bn
  refine hKc.out _ _ Dn10.out (fun hHeld => ?_)
  clear hKc Kc
  refine wpAnyH_ready (rs := [12]) (by kernel_rfl) (by simp) ?_
  refine AllReadyH.cons (by simp; rfl) (fun Kc hKc => ?_) AllReadyH.nil
  go_simp
  refine (laid_any sm sm_wf wn10).mono ?_
  rintro e wn11 ⟨gn11, cn11, rfl, mn11⟩
  have Dn11 : Hid (Below w7.heap.size w7 wn11) := below_then Dn10.out mn11.below
  have Ln11 : Hid (BIn wn11 (some ⟨gn11, 0, none⟩) 64 (encS sm)) := mn11.read
  clear mn11
  refine hKc.out _ _ Dn11.out (fun hHeld => ?_)
  clear hKc Kc
  refine wpAnyH_ready (rs := [13]) (by kernel_rfl) (by simp) ?_
  refine AllReadyH.cons (by simp; rfl) (fun Kc hKc => ?_) AllReadyH.nil
  rw [if_pos (by rfl)]
  refine run_conv_is 27 9 rfl rfl (Ln11.out.str cn11) ?_
  simp only [Act.put, List.setIfInBounds_toArray, List.set_cons_zero, List.set_cons_succ]
  refine hKc.out _ _ Dn11.out (fun hHeld => ?_)
  clear hKc Kc
  refine wpAnyH_take (i := 14) (v := ?va12) (by simp; rfl) (by kernel_rfl) (by kernel_rfl) (by kernel_rfl) (fun _ _ _ h => h) (Or.inl ⟨by rfl, ?ya12⟩) hHeld ?ra12
  case ya12 => intro w hSw; clear hSw; go_simp; with_reducible rfl
  simp only [Act.put, List.setIfInBounds_toArray, List.set_cons_zero, List.set_cons_succ]
  refine wpAnyH_take (i := 15) (v := ?va13) (by simp; rfl) (by kernel_rfl) (by kernel_rfl) (by kernel_rfl) (fun _ _ _ h => h) (Or.inl ⟨by rfl, ?ya13⟩) hHeld ?ra13
  case ya13 => intro w hSw; clear hSw; go_simp; with_reducible rfl
  simp only [Act.put, List.setIfInBounds_toArray, List.set_cons_zero, List.set_cons_succ]
  refine wpAnyH_take (i := 16) (v := ?va14) (by simp; rfl) (by kernel_rfl) (by kernel_rfl) (by kernel_rfl) (fun _ _ _ h => h) (Or.inl ⟨by rfl, ?ya14⟩) hHeld ?ra14
  case ya14 => intro w hSw; clear hSw; go_simp; with_reducible rfl
  simp only [Act.put, List.setIfInBounds_toArray, List.set_cons_zero, List.set_cons_succ]
  refine wpAnyH_take (i := 17) (v := _) (by simp; rfl) (by kernel_rfl) (by kernel_rfl) (by kernel_rfl) (fun _ _ _ h => h) (yieldsIf_load_mid (by rfl) 29 (.tmp 3) rfl w6.heap.size 0 rfl (scells sm) _ (fun _ h => LAt.range (LAt.later R7.out h)) Tryd.underlying29 rfl (by rw [size29, scells_len])) hHeld ?_
  simp only [Act.put, List.setIfInBounds_toArray, List.set_cons_zero, List.set_cons_succ]
  refine wpAnyH_ready (rs := [18]) (by kernel_rfl) (by simp) ?_
  refine AllReadyH.cons (by simp; rfl) (fun Kc hKc => ?_) AllReadyH.nil
  go_simp
  refine (plain_any sm wn11).mono ?_
  rintro e wn15 ⟨rfl, bn⟩
  have Dn15 : Hid (Below w7.heap.size w7 wn15) := below_then Dn11.out bn
  clear bn
  refine hKc.out _ _ Dn15.out (fun hHeld => ?_)
  clear hKc Kc
  refine wpAnyH_ready (rs := [19]) (by kernel_rfl) (by simp) ?_
  refine AllReadyH.cons (by simp; rfl) (fun Kc hKc => ?_) AllReadyH.nil
  go_simp
  refine (small_any wn15).mono ?_
  rintro e wn16 ⟨rfl, bn⟩
  have Dn16 : Hid (Below w7.heap.size w7 wn16) := below_then Dn15.out bn
  clear bn
  refine hKc.out _ _ Dn16.out (fun hHeld => ?_)
  clear hKc Kc
  have Q26 : Hid (∀ w, (binOp .eql 26 (.agg (scells sm).toArray) (.agg (scells sm).toArray)).run Tryd.prog w = .ok (.bool true) w) := fun w => by have := eql26 w sm sm; rwa [supB_same sm] at this
  refine wpAnyH_take (i := 20) (v := _) (by simp; rfl) (by kernel_rfl) (by kernel_rfl) (by kernel_rfl) (fun _ _ _ h => h) (yields_eql_is (by rfl) 26 rfl rfl rfl eqg26 Q26.out) hHeld ?_
  simp only [Act.put, List.setIfInBounds_toArray, List.set_cons_zero, List.set_cons_succ]
  refine wpAnyH_take (i := 21) (v := ?va17) (by simp; rfl) (by kernel_rfl) (by kernel_rfl) (by kernel_rfl) (fun _ _ _ h => h) (Or.inl ⟨by rfl, ?ya17⟩) hHeld ?ra17
  case ya17 => intro w hSw; clear hSw; go_simp; with_reducible rfl
  simp only [Act.put, List.setIfInBounds_toArray, List.set_cons_zero, List.set_cons_succ]
  refine wpAnyH_take (i := 22) (v := ?va18) (by simp; rfl) (by kernel_rfl) (by kernel_rfl) (by kernel_rfl) (fun _ _ _ h => h) (Or.inl ⟨by rfl, ?ya18⟩) hHeld ?ra18
  case ya18 => intro w hSw; clear hSw; go_simp; with_reducible rfl
  simp only [Act.put, List.setIfInBounds_toArray, List.set_cons_zero, List.set_cons_succ]
  refine wpAnyH_ready (rs := [23]) (by kernel_rfl) (by simp) ?_
  refine AllReadyH.cons (by simp; rfl) (fun Kc hKc => ?_) AllReadyH.nil
  go_simp
  refine (small_any wn16).mono ?_
  rintro e wn19 ⟨rfl, bn⟩
  have Dn19 : Hid (Below w7.heap.size w7 wn19) := below_then Dn16.out bn
  clear bn
  refine hKc.out _ _ Dn19.out (fun hHeld => ?_)
  clear hKc Kc
  refine wpAnyH_take (i := 24) (v := _) (by simp; rfl) (by kernel_rfl) (by kernel_rfl) (by kernel_rfl) (fun _ _ _ h => h) (yields_field_is (u := .agg (scells sm).toArray) (k := 0) (by rfl) 26 rfl rfl (fun w => field26 w sm)) hHeld ?_
  simp only [Act.put, List.setIfInBounds_toArray, List.set_cons_zero, List.set_cons_succ]
  refine wpAnyH_ready (rs := [25]) (by kernel_rfl) (by simp) ?_
  refine AllReadyH.cons (by simp; rfl) (fun Kc hKc => ?_) AllReadyH.nil
  go_simp
  refine (config_any sm wn19).mono ?_
  rintro e wn20 ⟨rfl, bn⟩
  have Dn20 : Hid (Below w7.heap.size w7 wn20) := below_then Dn19.out bn
  clear bn
  refine hKc.out _ _ Dn20.out (fun hHeld => ?_)
  clear hKc Kc
  refine wpAnyH_ready (rs := [26]) (by kernel_rfl) (by simp) ?_
  refine AllReadyH.cons (by simp; rfl) (fun Kc hKc => ?_) AllReadyH.nil
  go_simp
  refine (num_any (cfg sm) (cfg_i64 sm) wn20).mono ?_
  rintro e wz ⟨rfl, rfl⟩
  rw [cfg_yes sm sm_may.1]
  refine hKc.out _ _ Dn20.out (fun hHeld => ?_)
  clear hKc Kc
  refine wpAnyH_take (i := 27) (v := ?va21) (by simp; rfl) (by kernel_rfl) (by kernel_rfl) (by kernel_rfl) (fun _ _ _ h => h) (Or.inl ⟨by rfl, ?ya21⟩) hHeld ?ra21
  case ya21 => intro w hSw; clear hSw; go_simp; with_reducible rfl
  simp only [Act.put, List.setIfInBounds_toArray, List.set_cons_zero, List.set_cons_succ]
  refine wpAnyH_take (i := 28) (v := ?va22) (by simp; rfl) (by kernel_rfl) (by kernel_rfl) (by kernel_rfl) (fun _ _ _ h => h) (Or.inl ⟨by rfl, ?ya22⟩) hHeld ?ra22
  case ya22 => intro w hSw; clear hSw; go_simp; with_reducible rfl
  simp only [Act.put, List.setIfInBounds_toArray, List.set_cons_zero, List.set_cons_succ]
  refine wpAnyH_take (i := 29) (v := ?va23) (by simp; rfl) (by kernel_rfl) (by kernel_rfl) (by kernel_rfl) (fun _ _ _ h => h) (Or.inl ⟨by rfl, ?ya23⟩) hHeld ?ra23
  case ya23 => intro w hSw; clear hSw; go_simp; with_reducible rfl
  simp only [Act.put, List.setIfInBounds_toArray, List.set_cons_zero, List.set_cons_succ]
  refine wpAnyH_take (i := 30) (v := _) (by simp; rfl) (by kernel_rfl) (by kernel_rfl) (by kernel_rfl) (fun _ _ _ h => h) (yields_build_is (vs := []) (by rfl) 23 rfl (by rfl) (fun w => build23 w #[] sup0 fill_noneC)) hHeld ?_
  simp only [Act.put, List.setIfInBounds_toArray, List.set_cons_zero, List.set_cons_succ]
  refine wpAnyH_ready (rs := [31]) (by kernel_rfl) (by simp) ?_
  refine AllReadyH.cons (by simp; rfl) (fun Kc hKc => ?_) AllReadyH.nil
  go_simp
  refine (config_any sup0 wn20).mono ?_
  rintro e wn24 ⟨rfl, bn⟩
  have Dn24 : Hid (Below w7.heap.size w7 wn24) := below_then Dn20.out bn
  clear bn
  refine hKc.out _ _ Dn24.out (fun hHeld => ?_)
  clear hKc Kc
  refine wpAnyH_ready (rs := [32]) (by kernel_rfl) (by simp) ?_
  refine AllReadyH.cons (by simp; rfl) (fun Kc hKc => ?_) AllReadyH.nil
  go_simp
  refine (num_any (cfg sup0) (cfg_i64 sup0) wn24).mono ?_
  rintro e wz ⟨rfl, rfl⟩
  rw [cfg0]
  refine hKc.out _ _ Dn24.out (fun hHeld => ?_)
  clear hKc Kc
  refine wpAnyH_take (i := 33) (v := ?va25) (by simp; rfl) (by kernel_rfl) (by kernel_rfl) (by kernel_rfl) (fun _ _ _ h => h) (Or.inl ⟨by rfl, ?ya25⟩) hHeld ?ra25
  case ya25 => intro w hSw; clear hSw; go_simp; with_reducible rfl
  simp only [Act.put, List.setIfInBounds_toArray, List.set_cons_zero, List.set_cons_succ]
  refine wpAnyH_take (i := 34) (v := ?va26) (by simp; rfl) (by kernel_rfl) (by kernel_rfl) (by kernel_rfl) (fun _ _ _ h => h) (Or.inl ⟨by rfl, ?ya26⟩) hHeld ?ra26
  case ya26 => intro w hSw; clear hSw; go_simp; with_reducible rfl
  simp only [Act.put, List.setIfInBounds_toArray, List.set_cons_zero, List.set_cons_succ]
  refine wpAnyH_take (i := 35) (v := ?va27) (by simp; rfl) (by kernel_rfl) (by kernel_rfl) (by kernel_rfl) (fun _ _ _ h => h) (Or.inl ⟨by rfl, ?ya27⟩) hHeld ?ra27
  case ya27 => intro w hSw; clear hSw; go_simp; with_reducible rfl
  simp only [Act.put, List.setIfInBounds_toArray, List.set_cons_zero]
  refine wpAnyH_done (by kernel_rfl) (NoPanic.normal ?_) _
  clear hHeld
  go_wp2_with fail
  go_ret
  exact ⟨by simp, below_then B7.out Dn24.out⟩
end Go.Proofs.YtcfofoddfhbkcaaDoor
