/-
  SuperHands walked.
-/
import Derived.Test.YtcfofoddfhbkcaaDoorUa
import Derived.BigRegion
namespace Go.Proofs.YtcfofoddfhbkcaaDoor
open Go.RowKit

theorem info27s : (Tryd.prog.info? 27).map (fun i => (i.zero, i.size, i.bytes)) = some (some (.slice none 0 0), 1, 24) := by kernel_rfl
theorem info9s : (Tryd.prog.info? 9).map (fun i => (i.zero, i.size, i.bytes)) = some (some (.string { data := #[] }), 1, 16) := by kernel_rfl
theorem one_u8 (x : Int) : ∀ u ∈ [Value.int .u8 x], u.oneCell' = true := by
  intro u hu; obtain rfl := List.mem_singleton.1 hu; rfl
theorem one_slice (p : Option Addr) (n c : Nat) : ∀ u ∈ [Value.slice p n c], u.oneCell' = true := by
  intro u hu; obtain rfl := List.mem_singleton.1 hu; rfl
theorem one_string (x : ByteArray) : ∀ u ∈ [Value.string x], u.oneCell' = true := by
  intro u hu; obtain rfl := List.mem_singleton.1 hu; rfl
theorem rep_u8 (n : Nat) (x : Int) : U8 (List.replicate n x) = rep n x := by simp [U8, rep]
theorem rep_next (n : Nat) (x : Int) : rep n x ++ [Value.int .u8 x] = rep (n + 1) x := List.replicate_succ'.symm
theorem cells_of {w : World} {B e g n cap j : Nat} {xs : List Value} {v : Value} (h : w.ownsRow B e 1 (.slice (some ⟨g, 0, none⟩) n cap) n xs) (hj : j < n) (hv : xs[j]? = some v) {w' : World} (hb : Below w.heap.size w w') : w'.cell? ⟨g, j, none⟩ = some v := by
  have hlt := (h.lt g rfl).2
  rw [hb.cell (p := ⟨g, j, none⟩) hlt, h.cellAt j (by omega), hv]

set_option maxHeartbeats 8000000 in
set_option maxRecDepth 100000 in
theorem superHands_any (s t : Sup) (hs : s.Wf) (htw : t.Wf) (w : World) (ht : Tab w) :
    Calls Tryd.prog 5 #[.agg (scells s).toArray, .agg (scells t).toArray] w fun e w' => e = .returned (.bool true) ∧ Below w.heap.size w w' := by
  obtain ⟨i5, hi5, hz50, hz51, hz52⟩ := info_parts info5
  obtain ⟨i27, hi27, hz270, hz271, hz272⟩ := info_parts info27s
  obtain ⟨i9, hi9, hz90, hz91, hz92⟩ := info_parts info9s
  have HT : Hid (Tab w) := ht
  have HS : Hid (s.Wf) := hs
  have HTW : Hid (t.Wf) := htw
  obtain ⟨wb, hwb⟩ : ∃ x, x = (w.alloc (.cells (scells s).toArray 26)).alloc (.cells (scells t).toArray 26) := ⟨_, rfl⟩
  have B0 : Below w.heap.size w wb := by rw [hwb]; exact below_then (below_alloc w _) (below_alloc _ _)
  have R0 : SAt 26 wb w.heap.size s := by rw [hwb]; exact LAt.later (LAt.new 26 w (scells s)) (below_alloc _ _)
  have S0 : SAt 26 wb (w.heap.size + 1) t := by
    have := LAt.new 26 (w.alloc (.cells (scells s).toArray 26)) (scells t)
    rw [show (w.alloc (.cells (scells s).toArray 26)).heap.size = w.heap.size + 1 by simp] at this
    rw [hwb]
    exact this
  have H0 : Hid (Hand w wb s t (.slice none 0 0) (.slice none 0 0) [] [] (enc5 s t)) := ⟨B0, R0, S0, by simp, World.ownsRow_nil _ _ _ _, World.ownsRow_nil _ _ _ _, fun j h => absurd h (Nat.not_lt_zero _), fun i j h => absurd h (Nat.not_lt_zero _)⟩
  have ewb := hwb.symm
  clear hs htw ht hwb B0 R0 S0
  go_enter Tryd.func5, Tryd.ntmps5
  go_wp2_with fail
  clear ewb
  refine (awake_any wb (HT.out.later H0.out.below)).mono ?_
  rintro e w1 ⟨rfl, b1⟩
  have H1 : Hid (Hand w w1 s t (.slice none 0 0) (.slice none 0 0) [] [] (enc5 s t)) := H0.out.later b1
  clear b1 H0
  go_wp2_with fail
  go_loopw [5, 6, 7] (fun l we i wr => ∃ (a : Nat) (gs : List Nat), a ≤ 5 ∧ i = .int .i64 a ∧ Hid (gs.length = a) ∧ Hid (Hand w wr s t l we gs (txt5 s t a) (enc5 s t))) (fun _ _ i _ => 5 - (intOf i).toNat)
  case atStart => exact ⟨0, [], by omega, rfl, rfl, H1.out⟩
  case round =>
    obtain ⟨a, gs, ha, rfl, HG, HA⟩ := hrel
    clear H1
    obtain ⟨w2, hw2⟩ : ∃ x, x = wr := ⟨_, rfl⟩
    subst hw2
    by_cases ha5 : a < 5
    · have L2 : Hid (_) := SAt.load26 HA.out.bs
      go_wp2_with ((with_reducible refine at_ops ?_); (first | (refine wpList_load_is (by rfl) 26 rfl rfl L2.out ?_)); simp only [Act.put, List.setIfInBounds_toArray, List.set_cons_zero, List.set_cons_succ])
      refine (may_any s HS.out w2).mono ?_
      rintro e w3 ⟨rfl, b3⟩
      have H3 : Hid (Hand w w3 s t u5 u6 gs (txt5 s t a) (enc5 s t)) := HA.out.later b3
      have A3 : Hid (_) := alloc29 w3
      have S3 : Hid (_) := store_new29 w3 (mayS s)
      obtain ⟨w4, hw4⟩ : ∃ x, x = w3.alloc (.cells (scells (mayS s)).toArray 29) := ⟨_, rfl⟩
      have H4 : Hid (Hand w w4 s t u5 u6 gs (txt5 s t a) (enc5 s t)) := by rw [hw4]; exact H3.out.later (below_alloc w3 _)
      have X4 : Hid (SAt 29 w4 w3.heap.size (mayS s)) := by rw [hw4]; exact LAt.new 29 w3 _
      have hx2 : w.heap.size + 2 ≤ w3.heap.size := H3.out.size
      rw [← hw4] at S3
      clear b3 H3 HA L2 hw4
      by_cases h2 : a = 2
      · have h2' : ((a : Int) == 2) = true := by simp; omega
        have L4 : Hid (_) := SAt.load26 H4.out.bt
        go_wp2_with ((with_reducible refine at_ops ?_); (first | (refine wpList_alloc_is (by rfl) 29 rfl A3.out ?_) | (refine wpList_store_is (by rfl) 29 rfl rfl rfl S3.out ?_) | (refine wpList_load_is (by rfl) 26 rfl rfl L4.out ?_)); simp only [Act.put, List.setIfInBounds_toArray, List.set_cons_zero, List.set_cons_succ])
        clear A3 S3
        refine (may_any t HTW.out w4).mono ?_
        rintro e w5 ⟨rfl, b5⟩
        have H5' := H4.out.later b5
        have X5' : SAt 29 w5 w3.heap.size (mayS s) := LAt.later X4.out b5
        have S5 : Hid (_) := LAt.store (ds := scells (mayS t)) X5' size29 rfl (scells_all _)
        have H6' := H5'.var X5' hx2 (setRow_grown w5 w3.heap.size (scells (mayS t)).toArray)
        obtain ⟨w6, hw6⟩ : ∃ x, x = w5.setRow w3.heap.size (scells (mayS t)).toArray := ⟨_, rfl⟩
        have X6 : SAt 29 w6 w3.heap.size (mayS t) := by rw [hw6]; exact LAt.stored X5' _
        rw [← hw6] at S5 H6'
        have H6 : Hid (Hand w w6 s t u5 u6 gs (txt5 s t a) (enc5 s t)) := H6'
        have L6 : Hid (_) := SAt.load29 X6
        clear b5 H5' X5' hw6 H4 X4 L4 H6' X6 h2'
        have HX : Hid (encS (mayS t) = enc5 s t a) := by show _ = _; unfold enc5; rw [if_pos h2]
        have HMW : Hid ((mayS t).Wf ∧ May (mayS t)) := ⟨mayS_wf t, mayS_may t⟩
        have H2 : Hid (a = 2) := h2
        clear h2
        generalize mayS t = x at *
        go_wp2_with ((with_reducible refine at_ops ?_); (first | (refine wpList_store_is (by rfl) 29 rfl rfl rfl S5.out ?_) | (refine wpList_load_is (by rfl) 29 rfl rfl L6.out ?_)); simp only [Act.put, List.setIfInBounds_toArray, List.set_cons_zero, List.set_cons_succ])
        refine (encode_good x HMW.out.1 HMW.out.2 w6 (HT.out.later H6.out.below)).mono ?_
        rintro e w7 ⟨g, rfl, m7⟩
        rw [HX.out] at m7
        have H7 : Hid (Hand w w7 s t u5 u6 gs (txt5 s t a) (enc5 s t)) := H6.out.later m7.below
        have O7 : Hid (w7.ownsRow (w.heap.size + 2) 5 1 (sl g) 64 (U8 (enc5 s t a))) := own_mono m7.own H6.out.size
        have HGL : Hid (∀ j (h : j < gs.length), gs[j] < g) := fun j h => Nat.lt_of_lt_of_le (H6.out.lt j h).2 (m7.own.lt g rfl).1
        have hs7 : w.heap.size + 2 ≤ w7.heap.size := H7.out.size
        clear m7 H6 L6 HX HMW
        go_wp2_with fail
        refine (num_any 0 (by decide) w7).mono ?_
        rintro e wz ⟨rfl, rfl⟩
        have hgl5 : gs.length < 5 := by rw [HG.out]; exact ha5
        go_wp2_with (at_builtin; refine wpList_append_lies _ rfl (.tmp 48) (.tmp 50) 40 rfl (w.heap.size + 2) 27 i27 (.slice none 0 0) 1 24 Tryd.underlying40 hi27 hz270 hz271 hz272 rfl (by omega) u5 gs.length (gs.map sl) rfl (H7.out.list.alloc _) ⟨w7.heap.size, 0, none⟩ 1 1 [sl g] rfl rfl (cell_one_new _ _ _) (one_slice _ _ _) (by omega) (by unfold maxLen; omega) (by omega) (by simp; omega) _ rfl ?_)
        intro gl cl w8 hown8 hgrow8 _ _
        have H8 : Hid (Hand w w8 s t (.slice (some ⟨gl, 0, none⟩) (gs.length + 1) cl) u6 (gs ++ [g]) (txt5 s t a) (enc5 s t)) := (H7.out.later (below_alloc w7 (.cells #[sl g] 27))).more hgl5 HGL.out (O7.out.alloc _) (enc5_bytes s t a) (by rw [HG.out]) hown8 hgrow8
        have z8 : (convert 27 9 (.slice (some ⟨g, 0, none⟩) 64 64)).run Tryd.prog w8 = .ok (.string (strOfNums (enc5 s t a))) w8 := by
          have hr := H8.out.rows gs.length (by simp)
          rw [List.getElem_append_right (Nat.le_refl _)] at hr
          simp only [Nat.sub_self, List.getElem_cons_zero] at hr
          have := own_bin hr.1 hr.2
          rw [HG.out] at this
          exact this.str 64
        have hs8 : w.heap.size + 2 ≤ w8.heap.size := H8.out.size
        have htl : (txt5 s t a).length < 5 := by rw [txt5_len]; exact ha5
        clear hown8 hgrow8 H7 O7 HGL hs7
        go_wp2_with (at_builtin; refine wpList_append_lies _ rfl (.tmp 52) (.tmp 55) 41 rfl (w.heap.size + 2) 9 i9 (.string { data := #[] }) 1 16 Tryd.underlying41 hi9 hz90 hz91 hz92 rfl (by omega) u6 (txt5 s t a).length (txt5 s t a) rfl (H8.out.were.alloc _) ⟨w8.heap.size, 0, none⟩ 1 1 [.string (strOfNums (enc5 s t a))] rfl rfl (cell_one_new _ _ _) (one_string _) (by omega) (by unfold maxLen; omega) (by omega) (by simp; omega) _ rfl ?_)
        intro gw cw w9 hown9 hgrow9 _ _
        have H9 : Hid (Hand w w9 s t (.slice (some ⟨gl, 0, none⟩) (gs.length + 1) cl) (.slice (some ⟨gw, 0, none⟩) ((txt5 s t a).length + 1) cw) (gs ++ [g]) (txt5 s t (a + 1)) (enc5 s t)) := by
          have := (H8.out.later (below_alloc w8 (.cells #[.string (strOfNums (enc5 s t a))] 9))).text hown9 hgrow9
          rw [txt5_next] at this
          exact this
        clear hown9 hgrow9 H8 z8 hs8 htl
        have HG9 : Hid ((gs ++ [g]).length = a + 1) := by show _ = _; simp [HG.out]
        go_wp2_with fail
        go_roundw
        case rel => exact ⟨a + 1, gs ++ [g], by omega, by rw [H2.out]; rfl, HG9.out, H9.out⟩
        case measure => have := H2.out; simp [intOf]; omega
      · have h2' : ((a : Int) == 2) = false := by simp; omega
        have L6 : Hid (_) := SAt.load29 X4.out
        have H6 : Hid (Hand w w4 s t u5 u6 gs (txt5 s t a) (enc5 s t)) := H4.out
        have HX : Hid (encS (mayS s) = enc5 s t a) := by show _ = _; unfold enc5; rw [if_neg h2]
        have HMW : Hid ((mayS s).Wf ∧ May (mayS s)) := ⟨mayS_wf s, mayS_may s⟩
        clear H4 X4 h2
        generalize mayS s = x at *
        go_wp2_with ((with_reducible refine at_ops ?_); (first | (refine wpList_alloc_is (by rfl) 29 rfl A3.out ?_) | (refine wpList_store_is (by rfl) 29 rfl rfl rfl S3.out ?_) | (refine wpList_load_is (by rfl) 29 rfl rfl L6.out ?_)); simp only [Act.put, List.setIfInBounds_toArray, List.set_cons_zero, List.set_cons_succ])
        refine (encode_good x HMW.out.1 HMW.out.2 w4 (HT.out.later H6.out.below)).mono ?_
        rintro e w7 ⟨g, rfl, m7⟩
        rw [HX.out] at m7
        have H7 : Hid (Hand w w7 s t u5 u6 gs (txt5 s t a) (enc5 s t)) := H6.out.later m7.below
        have O7 : Hid (w7.ownsRow (w.heap.size + 2) 5 1 (sl g) 64 (U8 (enc5 s t a))) := own_mono m7.own H6.out.size
        have HGL : Hid (∀ j (h : j < gs.length), gs[j] < g) := fun j h => Nat.lt_of_lt_of_le (H6.out.lt j h).2 (m7.own.lt g rfl).1
        have hs7 : w.heap.size + 2 ≤ w7.heap.size := H7.out.size
        clear m7 H6 L6 HX HMW
        go_wp2_with fail
        refine (num_any 0 (by decide) w7).mono ?_
        rintro e wz ⟨rfl, rfl⟩
        have hgl5 : gs.length < 5 := by rw [HG.out]; exact ha5
        go_wp2_with (at_builtin; refine wpList_append_lies _ rfl (.tmp 48) (.tmp 50) 40 rfl (w.heap.size + 2) 27 i27 (.slice none 0 0) 1 24 Tryd.underlying40 hi27 hz270 hz271 hz272 rfl (by omega) u5 gs.length (gs.map sl) rfl (H7.out.list.alloc _) ⟨w7.heap.size, 0, none⟩ 1 1 [sl g] rfl rfl (cell_one_new _ _ _) (one_slice _ _ _) (by omega) (by unfold maxLen; omega) (by omega) (by simp; omega) _ rfl ?_)
        intro gl cl w8 hown8 hgrow8 _ _
        have H8 : Hid (Hand w w8 s t (.slice (some ⟨gl, 0, none⟩) (gs.length + 1) cl) u6 (gs ++ [g]) (txt5 s t a) (enc5 s t)) := (H7.out.later (below_alloc w7 (.cells #[sl g] 27))).more hgl5 HGL.out (O7.out.alloc _) (enc5_bytes s t a) (by rw [HG.out]) hown8 hgrow8
        have z8 : (convert 27 9 (.slice (some ⟨g, 0, none⟩) 64 64)).run Tryd.prog w8 = .ok (.string (strOfNums (enc5 s t a))) w8 := by
          have hr := H8.out.rows gs.length (by simp)
          rw [List.getElem_append_right (Nat.le_refl _)] at hr
          simp only [Nat.sub_self, List.getElem_cons_zero] at hr
          have := own_bin hr.1 hr.2
          rw [HG.out] at this
          exact this.str 64
        have hs8 : w.heap.size + 2 ≤ w8.heap.size := H8.out.size
        have htl : (txt5 s t a).length < 5 := by rw [txt5_len]; exact ha5
        clear hown8 hgrow8 H7 O7 HGL hs7
        go_wp2_with (at_builtin; refine wpList_append_lies _ rfl (.tmp 52) (.tmp 55) 41 rfl (w.heap.size + 2) 9 i9 (.string { data := #[] }) 1 16 Tryd.underlying41 hi9 hz90 hz91 hz92 rfl (by omega) u6 (txt5 s t a).length (txt5 s t a) rfl (H8.out.were.alloc _) ⟨w8.heap.size, 0, none⟩ 1 1 [.string (strOfNums (enc5 s t a))] rfl rfl (cell_one_new _ _ _) (one_string _) (by omega) (by unfold maxLen; omega) (by omega) (by simp; omega) _ rfl ?_)
        intro gw cw w9 hown9 hgrow9 _ _
        have H9 : Hid (Hand w w9 s t (.slice (some ⟨gl, 0, none⟩) (gs.length + 1) cl) (.slice (some ⟨gw, 0, none⟩) ((txt5 s t a).length + 1) cw) (gs ++ [g]) (txt5 s t (a + 1)) (enc5 s t)) := by
          have := (H8.out.later (below_alloc w8 (.cells #[.string (strOfNums (enc5 s t a))] 9))).text hown9 hgrow9
          rw [txt5_next] at this
          exact this
        clear hown9 hgrow9 H8 z8 hs8 htl
        have HG9 : Hid ((gs ++ [g]).length = a + 1) := by show _ = _; simp [HG.out]
        go_wp2_with fail
        go_roundw
        case rel => exact ⟨a + 1, gs ++ [g], by omega, by go_num, HG9.out, H9.out⟩
        case measure => simp [intOf]; omega
    · have ha5e : a = 5 := by omega
      have HG5 : Hid (gs.length = 5) := by show _ = _; rw [HG.out, ha5e]
      obtain ⟨gl, cl, hu5, _, _⟩ := World.ownsRow.form HA.out.list (by rw [HG5.out]; omega)
      obtain ⟨gw, cw, hu6, _, _⟩ := World.ownsRow.form HA.out.were (by rw [txt5_len]; omega)
      rw [HG5.out] at hu5
      rw [txt5_len, ha5e] at hu6
      subst hu5 hu6
      have HB0 : Hid (Hand w w2 s t (.slice (some ⟨gl, 0, none⟩) 5 cl) (.slice (some ⟨gw, 0, none⟩) 5 cw) gs (txt5 s t 5) (enc5 s t)) := by rw [ha5e] at HA; exact HA.out
      clear HA HG
      have HG : Hid (gs.length = 5) := HG5.out
      clear HG5
      go_wp2_with fail
      clear ha5e ha5 ha
      go_loopw [59] (fun i wr => ∃ (j : Nat), j ≤ 5 ∧ i = .int .i64 j ∧ Hid (Hand w wr s t (.slice (some ⟨gl, 0, none⟩) 5 cl) (.slice (some ⟨gw, 0, none⟩) 5 cw) gs (txt5 s t 5) (enc5 s t))) (fun i _ => 5 - (intOf i).toNat)
      case atStart => exact ⟨0, by omega, rfl, HB0.out⟩
      case round =>
        obtain ⟨j, hj, rfl, HB⟩ := hrel
        clear HB0
        obtain ⟨we3, hwe3⟩ : ∃ x, x = wr := ⟨_, rfl⟩
        subst hwe3
        by_cases hj5 : j < 5
        · have hjG : j < gs.length := by rw [HG.out]; exact hj5
          have CL : Hid (∀ w', Below we3.heap.size we3 w' → w'.cell? ⟨gl, j, none⟩ = some (.slice (some ⟨gs[j], 0, none⟩) 64 64)) := fun w' hb => by
            have ho := HB.out.list
            rw [HG.out] at ho
            exact cells_of ho hj5 (by rw [List.getElem?_map, List.getElem?_eq_getElem hjG]; rfl) hb
          have CS : Hid (∀ w', Below we3.heap.size we3 w' → (convert 27 9 (.slice (some ⟨gs[j], 0, none⟩) 64 64)).run Tryd.prog w' = .ok (.string (strOfNums (enc5 s t j))) w') := fun w' hb =>
            ((own_bin (HB.out.rows j hjG).1 (HB.out.rows j hjG).2).later hb).str 64
          have CW : Hid (∀ w', Below we3.heap.size we3 w' → w'.cell? ⟨gw, j, none⟩ = some (.string (strOfNums (enc5 s t j)))) := fun w' hb => by
            have ho := HB.out.were
            rw [txt5_len] at ho
            exact cells_of ho hj5 (txt5_at s t 5 j hj5) hb
          have hji : (j : Int) < 5 := by omega
          generalize gs[j] = gj at *
          generalize strOfNums (enc5 s t j) = sj at *
          go_wp2_with fail
          refine wp_region_noPanic ?_
          refine wp_region_held_drew (S := fun w' => Below we3.heap.size we3 w') (by kernel_rfl) (below_drawn 1) (fun hHeld => ?_)
          have D3 : Hid (Below we3.heap.size we3 we3.drew) := hHeld
          generalize we3.drew = wd at *
          refine wpAnyH_take (i := 0) (v := ?va1) (by simp; rfl) (by kernel_rfl) (by kernel_rfl) (by kernel_rfl) (fun _ _ _ h => h) (Or.inl ⟨by rfl, ?ya1⟩) hHeld ?ra1
          case ya1 => intro w hSw; clear hSw; go_simp; with_reducible rfl
          simp only [Act.put, List.setIfInBounds_toArray, List.set_cons_zero, List.set_cons_succ]
          refine wpAnyH_take (i := 1) (v := ?va2) (by simp; rfl) (by kernel_rfl) (by kernel_rfl) (by kernel_rfl) (fun _ _ _ h => h) (Or.inl ⟨by rfl, ?ya2⟩) hHeld ?ra2
          case ya2 => intro w hSw; clear hSw; go_simp; with_reducible rfl
          simp only [Act.put, List.setIfInBounds_toArray, List.set_cons_zero, List.set_cons_succ]
          refine wpAnyH_take (i := 2) (v := ?va3) (by simp; rfl) (by kernel_rfl) (by kernel_rfl) (by kernel_rfl) (fun _ _ _ h => h) (Or.inl ⟨by rfl, ?ya3⟩) hHeld ?ra3
          case ya3 => intro w hSw; clear hSw; go_simp; with_reducible rfl
          simp only [Act.put, List.setIfInBounds_toArray, List.set_cons_zero, List.set_cons_succ]
          refine wpAnyH_take (i := 3) (v := ?va4) (by simp; rfl) (by kernel_rfl) (by kernel_rfl) (by kernel_rfl) (fun _ _ _ h => h) (Or.inl ⟨by rfl, ?ya4⟩) hHeld ?ra4
          case ya4 => intro w hSw; have z1 := CL.out _ hSw; clear hSw; go_simp; with_reducible rfl
          simp only [Act.put, List.setIfInBounds_toArray, List.set_cons_zero, List.set_cons_succ]
          refine wpAnyH_take (i := 4) (v := ?va5) (by simp; rfl) (by kernel_rfl) (by kernel_rfl) (by kernel_rfl) (fun _ _ _ h => h) (Or.inl ⟨by rfl, ?ya5⟩) hHeld ?ra5
          case ya5 => intro w hSw; have z1 := CS.out _ hSw; clear hSw; go_simp; with_reducible rfl
          simp only [Act.put, List.setIfInBounds_toArray, List.set_cons_zero, List.set_cons_succ]
          refine wpAnyH_take (i := 5) (v := ?va6) (by simp; rfl) (by kernel_rfl) (by kernel_rfl) (by kernel_rfl) (fun _ _ _ h => h) (Or.inl ⟨by rfl, ?ya6⟩) hHeld ?ra6
          case ya6 => intro w hSw; clear hSw; go_simp; with_reducible rfl
          simp only [Act.put, List.setIfInBounds_toArray, List.set_cons_zero, List.set_cons_succ]
          refine wpAnyH_take (i := 6) (v := ?va7) (by simp; rfl) (by kernel_rfl) (by kernel_rfl) (by kernel_rfl) (fun _ _ _ h => h) (Or.inl ⟨by rfl, ?ya7⟩) hHeld ?ra7
          case ya7 => intro w hSw; clear hSw; go_simp; with_reducible rfl
          simp only [Act.put, List.setIfInBounds_toArray, List.set_cons_zero, List.set_cons_succ]
          refine wpAnyH_take (i := 7) (v := ?va8) (by simp; rfl) (by kernel_rfl) (by kernel_rfl) (by kernel_rfl) (fun _ _ _ h => h) (Or.inl ⟨by rfl, ?ya8⟩) hHeld ?ra8
          case ya8 => intro w hSw; clear hSw; go_simp; with_reducible rfl
          simp only [Act.put, List.setIfInBounds_toArray, List.set_cons_zero, List.set_cons_succ]
          refine wpAnyH_take (i := 8) (v := ?va9) (by simp; rfl) (by kernel_rfl) (by kernel_rfl) (by kernel_rfl) (fun _ _ _ h => h) (Or.inl ⟨by rfl, ?ya9⟩) hHeld ?ra9
          case ya9 => intro w hSw; have z1 := CW.out _ hSw; clear hSw; go_simp; with_reducible rfl
          simp only [Act.put, List.setIfInBounds_toArray, List.set_cons_zero, List.set_cons_succ]
          refine wpAnyH_take (i := 9) (v := ?va10) (by simp; rfl) (by kernel_rfl) (by kernel_rfl) (by kernel_rfl) (fun _ _ _ h => h) (Or.inl ⟨by rfl, ?ya10⟩) hHeld ?ra10
          case ya10 => intro w hSw; clear hSw; go_simp; with_reducible rfl
          simp only [Act.put, List.setIfInBounds_toArray, List.set_cons_zero, List.set_cons_succ]
          refine wpAnyH_done (by kernel_rfl) (NoPanic.normal ?_) _
          have HB4 : Hid (Hand w wd s t (.slice (some ⟨gl, 0, none⟩) 5 cl) (.slice (some ⟨gw, 0, none⟩) 5 cw) gs (txt5 s t 5) (enc5 s t)) := HB.out.later D3.out
          clear hHeld CL CS CW HB D3
          go_wp2_with fail
          go_roundw
          case rel => exact ⟨j + 1, by omega, by go_num, HB4.out⟩
          case measure => simp [intOf]; omega
        · have HC0 : Hid (Hand w we3 s t (.slice (some ⟨gl, 0, none⟩) 5 cl) (.slice (some ⟨gw, 0, none⟩) 5 cw) gs (txt5 s t 5) (cm s t 0 0)) := HB.out.same (cm_zero s t)
          clear HB
          go_wp2_with fail
          go_loopw [75] (fun ii wr => ∃ (i : Nat), i ≤ 5 ∧ ii = .int .i64 i ∧ Hid (Hand w wr s t (.slice (some ⟨gl, 0, none⟩) 5 cl) (.slice (some ⟨gw, 0, none⟩) 5 cw) gs (txt5 s t 5) (cm s t i 0))) (fun ii _ => 5 - (intOf ii).toNat)
          case atStart => exact ⟨0, by omega, rfl, HC0.out⟩
          case round =>
            obtain ⟨i, hi, rfl, HC3⟩ := hrel
            clear HC0
            obtain ⟨wc, hwc⟩ : ∃ x, x = wr := ⟨_, rfl⟩
            subst hwc
            by_cases hi5' : i < 5
            · have hiG : i < gs.length := by rw [HG.out]; exact hi5'
              obtain ⟨gi, hgi⟩ : ∃ g, g = gs[i] := ⟨_, rfl⟩
              have HGI : Hid (gi = gs[i]) := hgi
              have hcl : wc.cell? ⟨gl, i, none⟩ = some (.slice (some ⟨gi, 0, none⟩) 64 64) := by
                have ho := HC3.out.list
                rw [HG.out] at ho
                exact cells_of ho hi5' (by rw [List.getElem?_map, List.getElem?_eq_getElem hiG, hgi]; rfl) (Below.refl _ _)
              clear hgi
              go_wp2_with fail
              clear hcl
              go_loopw [83] (fun kk wr => ∃ (k : Nat), k ≤ 64 ∧ kk = .int .i64 k ∧ Hid (Hand w wr s t (.slice (some ⟨gl, 0, none⟩) 5 cl) (.slice (some ⟨gw, 0, none⟩) 5 cw) gs (txt5 s t 5) (cm s t i k))) (fun kk _ => 64 - (intOf kk).toNat)
              case atStart => exact ⟨0, by omega, rfl, HC3.out⟩
              case round =>
                obtain ⟨k, hk, rfl, HC4⟩ := hrel
                clear HC3
                obtain ⟨wk, hwk⟩ : ∃ x, x = wr := ⟨_, rfl⟩
                subst hwk
                by_cases hk64 : k < 64
                · have hcl : wk.cell? ⟨gl, i, none⟩ = some (.slice (some ⟨gi, 0, none⟩) 64 64) := by
                    have ho := HC4.out.list
                    rw [HG.out] at ho
                    exact cells_of ho hi5' (by rw [List.getElem?_map, List.getElem?_eq_getElem hiG, HGI.out]; rfl) (Below.refl _ _)
                  have hrow := (HC4.out.rows i hiG).1
                  have hfz := hrow.frozenAt k
                  have hcx := hrow.cellAt k (by omega)
                  have hlx : k < (U8 (cm s t i k i)).length := by have := hrow.1; omega
                  rw [List.getElem?_eq_getElem hlx] at hcx
                  have HN : Hid (Hand w (wk.setCell ⟨gs[i], k, none⟩ (.int .u8 ((i : Int) + 1))) s t (.slice (some ⟨gl, 0, none⟩) 5 cl) (.slice (some ⟨gw, 0, none⟩) 5 cw) gs (txt5 s t 5) (cm s t i (k + 1))) := HC4.out.mark i hiG k ((i : Int) + 1) (by omega) (by omega) _ (cm_step s t i k hk64) (fun j hj => cm_far s t i k (k + 1) j hj)
                  rw [← HGI.out] at hfz hcx HN
                  generalize (U8 (cm s t i k i))[k] = ux at *
                  have i8 : ((i : Int) + 1) % 256 = (i : Int) + 1 := by omega
                  clear hrow hlx HC4
                  go_wp2_with fail
                  clear hcl hfz hcx
                  go_roundw
                  case rel => exact ⟨k + 1, by omega, by go_num, HN.out⟩
                  case measure => simp [intOf]; omega
                · have hk64e : k = 64 := by omega
                  have HN : Hid (Hand w wk s t (.slice (some ⟨gl, 0, none⟩) 5 cl) (.slice (some ⟨gw, 0, none⟩) 5 cw) gs (txt5 s t 5) (cm s t (i + 1) 0)) := by rw [hk64e] at HC4; exact HC4.out.same (cm_next s t i)
                  clear HC4
                  go_wp2_with fail
                  go_roundw
                  case rel => exact ⟨i + 1, by omega, by go_num, HN.out⟩
                  case measure => simp [intOf]; omega
            · have hi5e : i = 5 := by omega
              have HD : Hid (Hand w wc s t (.slice (some ⟨gl, 0, none⟩) 5 cl) (.slice (some ⟨gw, 0, none⟩) 5 cw) gs (txt5 s t 5) (cm s t 5 0)) := by rw [hi5e] at HC3; exact HC3.out
              clear HC3 hi5e
              generalize wc = wD at *
              have HLG0 : Hid (Long wD wD (.slice none 0 0) []) := ⟨Below.refl _ _, World.ownsRow_nil _ _ _ _, fun q h => absurd h (Nat.not_lt_zero _)⟩
              go_wp2_with fail
              go_loopw [14, 15] (fun V n wr => ∃ (a : Nat) (LL : List Value), 1 ≤ a ∧ a ≤ 17 ∧ n = .int .i64 a ∧ Hid (LL.length = 5 * (a - 1)) ∧ Hid (Long wD wr V LL)) (fun _ n _ => 17 - (intOf n).toNat)
              case atStart => exact ⟨1, [], by omega, by omega, rfl, rfl, HLG0.out⟩
              case round =>
                obtain ⟨a, LL, ha1, ha17, rfl, HLL, HLg⟩ := hrel
                clear HLG0
                obtain ⟨w5, hw5⟩ : ∃ x, x = wr := ⟨_, rfl⟩
                subst hw5
                by_cases ha16 : a ≤ 16
                · have haI : (a : Int) ≤ 16 := by omega
                  go_wp2_with fail
                  clear haI
                  go_loopw [14, 103] (fun V ii wr => ∃ (i : Nat) (LL : List Value), i ≤ 5 ∧ ii = .int .i64 i ∧ Hid (LL.length = 5 * (a - 1) + i) ∧ Hid (Long wD wr V LL)) (fun _ ii _ => 5 - (intOf ii).toNat)
                  case atStart => exact ⟨0, LL, by omega, rfl, HLL.out, HLg.out⟩
                  case round =>
                    clear HLL HLg
                    obtain ⟨i, LL, hi, rfl, HLL, HL6⟩ := hrel
                    obtain ⟨wi, hwi⟩ : ∃ x, x = wr := ⟨_, rfl⟩
                    subst hwi
                    by_cases hi5' : i < 5
                    · have hiG : i < gs.length := by rw [HG.out]; exact hi5'
                      have HDi : Hid (Hand w wi s t (.slice (some ⟨gl, 0, none⟩) 5 cl) (.slice (some ⟨gw, 0, none⟩) 5 cw) gs (txt5 s t 5) (cm s t 5 0)) := HD.out.later HL6.out.below
                      obtain ⟨gi, hgi⟩ : ∃ g, g = gs[i] := ⟨_, rfl⟩
                      have hcl : wi.cell? ⟨gl, i, none⟩ = some (.slice (some ⟨gi, 0, none⟩) 64 64) := by
                        have ho := HDi.out.list
                        rw [HG.out] at ho
                        exact cells_of ho hi5' (by rw [List.getElem?_map, List.getElem?_eq_getElem hiG, hgi]; rfl) (Below.refl _ _)
                      have OI0 : Hid (wi.ownsRow (w.heap.size + 2) 5 1 (.slice (some ⟨gi, 0, none⟩) 64 64) 64 (rep 64 ((i : Int) + 1))) := by
                        have := (HDi.out.rows i hiG).1
                        rw [cm_all s t i hi5', rep_u8, ← hgi] at this
                        exact this
                      clear HDi hgi
                      have hiI : (i : Int) < 5 := by omega
                      go_wp2_with fail
                      go_loopw [17, 18] (fun b kk wr => ∃ (k : Nat), k ≤ 80 ∧ kk = .int .i64 k ∧ Hid (Below wi.heap.size wi wr ∧ ((k = 0 ∧ b = .slice (some ⟨gi, 0, none⟩) 64 64) ∨ (0 < k ∧ wr.ownsRow wi.heap.size 5 1 b (64 + k) (rep (64 + k) ((i : Int) + 1)))))) (fun _ kk _ => 80 - (intOf kk).toNat)
                      case atStart => exact ⟨0, by omega, rfl, Below.refl _ _, .inl ⟨rfl, rfl⟩⟩
                      case round =>
                        obtain ⟨k, hk, rfl, HB7⟩ := hrel
                        clear hcl
                        obtain ⟨w17, hw17⟩ : ∃ x, x = wr := ⟨_, rfl⟩
                        subst hw17
                        have i8 : ((i : Int) + 1) % 256 = (i : Int) + 1 := by omega
                        by_cases hk0 : k = 0
                        · have hu : u17 = .slice (some ⟨gi, 0, none⟩) 64 64 := by
                            rcases HB7.out.2 with ⟨_, h⟩ | ⟨h, _⟩
                            · exact h
                            · omega
                          subst hu
                          have OI : Hid (w17.ownsRow (w.heap.size + 2) 5 1 (.slice (some ⟨gi, 0, none⟩) 64 64) 64 (rep 64 ((i : Int) + 1))) := own_later OI0.out HB7.out.1
                          have hka : (k : Int) < (a : Int) := by omega
                          go_wp2_with (at_builtin; refine wpList_append_full _ rfl (.tmp 123) (.tmp 127) 27 rfl (w.heap.size + 2) 5 i5 (.int .u8 0) 1 Tryd.underlying27 hi5 hz50 hz51 hz52 rfl gi 64 (rep 64 ((i : Int) + 1)) rfl (OI.out.alloc _) ⟨w17.heap.size, 0, none⟩ 1 1 [.int .u8 ((i : Int) + 1)] rfl rfl (cell_one_new _ _ _) (by omega) (by unfold maxLen; omega) (by omega) ?_)
                          intro cap w18 hown18 b18
                          have ba : Below w17.heap.size w17 w18 := (below_alloc w17 _).trans (b18.mono (by simp))
                          have HN : Hid (Below wi.heap.size wi w18 ∧ w18.ownsRow wi.heap.size 5 1 (.slice (some ⟨w17.heap.size + 1, 0, none⟩) 65 cap) (64 + (k + 1)) (rep (64 + (k + 1)) ((i : Int) + 1))) := by
                            refine ⟨below_then HB7.out.1 ba, ?_⟩
                            have ho := own_mono hown18 (show wi.heap.size ≤ w17.heap.size + 1 by have := HB7.out.1.size; omega)
                            rw [rep_next] at ho
                            rw [hk0]
                            simpa using ho
                          clear hown18 b18 ba HB7 OI
                          go_wp2_with fail
                          go_roundw
                          case rel => exact ⟨k + 1, by omega, by go_num, HN.out.1, .inr ⟨by omega, HN.out.2⟩⟩
                          case measure => simp [intOf]; omega
                        · by_cases hka : k < a
                          · have OI : Hid (w17.ownsRow wi.heap.size 5 1 u17 (64 + k) (rep (64 + k) ((i : Int) + 1))) := by
                              rcases HB7.out.2 with ⟨h, _⟩ | ⟨_, h⟩
                              · omega
                              · exact h
                            have hka' : (k : Int) < (a : Int) := by omega
                            go_wp2_with (at_builtin; refine wpList_append_lies _ rfl (.tmp 123) (.tmp 127) 27 rfl wi.heap.size 5 i5 (.int .u8 0) 1 1 Tryd.underlying27 hi5 hz50 hz51 hz52 rfl (by omega) u17 (64 + k) (rep (64 + k) ((i : Int) + 1)) rfl (OI.out.alloc _) ⟨w17.heap.size, 0, none⟩ 1 1 [.int .u8 ((i : Int) + 1)] rfl rfl (cell_one_new _ _ _) (one_u8 _) (by omega) (by unfold maxLen; omega) (by omega) (by have := HB7.out.1.size; simp; omega) _ rfl ?_)
                            intro gb cap w18 hown18 hgrow18 _ _
                            have HN : Hid (Below wi.heap.size wi w18 ∧ w18.ownsRow wi.heap.size 5 1 (.slice (some ⟨gb, 0, none⟩) (64 + (k + 1)) cap) (64 + (k + 1)) (rep (64 + (k + 1)) ((i : Int) + 1))) := by
                              refine ⟨(HB7.out.1.alloc HB7.out.1.size _).grown hgrow18 (by have := HB7.out.1.size; simp; omega) (fun q hq => (OI.out.lt q hq).1), ?_⟩
                              rw [rep_next] at hown18
                              exact hown18
                            clear hown18 hgrow18 HB7 OI
                            go_wp2_with fail
                            go_roundw
                            case rel => exact ⟨k + 1, by omega, by go_num, HN.out.1, .inr ⟨by omega, HN.out.2⟩⟩
                            case measure => simp [intOf]; omega
                          · have hka' : ¬ (k : Int) < (a : Int) := by omega
                            obtain ⟨c16, hc16⟩ : ∃ c, c = ((a : Int) == 16) := ⟨_, rfl⟩
                            have hA : ((a : Int) == 16) = c16 := hc16.symm
                            by_cases ha16 : c16 = true
                            · have HA16 : Hid (a = 16) := by rw [hc16] at ha16; simp at ha16; show _ = _; omega
                              clear hc16
                              by_cases hk80 : k < 80
                              · have hk80' : (k : Int) < 80 := by omega
                                have OI : Hid (w17.ownsRow wi.heap.size 5 1 u17 (64 + k) (rep (64 + k) ((i : Int) + 1))) := by
                                  rcases HB7.out.2 with ⟨h, _⟩ | ⟨_, h⟩
                                  · omega
                                  · exact h
                                go_wp2_with (at_builtin; refine wpList_append_lies _ rfl (.tmp 123) (.tmp 127) 27 rfl wi.heap.size 5 i5 (.int .u8 0) 1 1 Tryd.underlying27 hi5 hz50 hz51 hz52 rfl (by omega) u17 (64 + k) (rep (64 + k) ((i : Int) + 1)) rfl (OI.out.alloc _) ⟨w17.heap.size, 0, none⟩ 1 1 [.int .u8 ((i : Int) + 1)] rfl rfl (cell_one_new _ _ _) (one_u8 _) (by omega) (by unfold maxLen; omega) (by omega) (by have := HB7.out.1.size; simp; omega) _ rfl ?_)
                                intro gb cap w18 hown18 hgrow18 _ _
                                have HN : Hid (Below wi.heap.size wi w18 ∧ w18.ownsRow wi.heap.size 5 1 (.slice (some ⟨gb, 0, none⟩) (64 + (k + 1)) cap) (64 + (k + 1)) (rep (64 + (k + 1)) ((i : Int) + 1))) := by
                                  refine ⟨(HB7.out.1.alloc HB7.out.1.size _).grown hgrow18 (by have := HB7.out.1.size; simp; omega) (fun q hq => (OI.out.lt q hq).1), ?_⟩
                                  rw [rep_next] at hown18
                                  exact hown18
                                clear hown18 hgrow18 HB7 OI
                                go_wp2_with fail
                                go_roundw
                                case rel => exact ⟨k + 1, by omega, by go_num, HN.out.1, .inr ⟨by omega, HN.out.2⟩⟩
                                case measure => simp [intOf]; omega
                              · have hk80' : ¬ (k : Int) < 80 := by omega
                                have hkp : 0 < k := by omega
                                have OE : Hid (w17.ownsRow wi.heap.size 5 1 u17 (64 + k) (rep (64 + k) ((i : Int) + 1))) := by
                                  rcases HB7.out.2 with ⟨h0, _⟩ | ⟨_, h⟩
                                  · omega
                                  · exact h
                                obtain ⟨ge, ce, hu17, _, _⟩ := World.ownsRow.form OE.out (by omega)
                                subst hu17
                                have HL17 : Hid (Long wD w17 u14 LL) := HL6.out.later HB7.out.1
                                have hs17 : wD.heap.size ≤ w17.heap.size := HL17.out.below.size
                                have OE2 : Hid (w17.ownsRow wD.heap.size 5 1 (.slice (some ⟨ge, 0, none⟩) (64 + k) ce) (64 + k) (rep (64 + k) ((i : Int) + 1))) := own_mono OE.out HL6.out.below.size
                                have hll : LL.length < 200 := by have := HLL.out; omega
                                clear OE HB7
                                go_wp2_with (at_builtin; refine wpList_append_lies _ rfl (.tmp 129) (.tmp 131) 40 rfl wD.heap.size 27 i27 (.slice none 0 0) 1 24 Tryd.underlying40 hi27 hz270 hz271 hz272 rfl (by omega) u14 LL.length LL rfl (HL17.out.own.alloc _) ⟨w17.heap.size, 0, none⟩ 1 1 [.slice (some ⟨ge, 0, none⟩) (64 + k) ce] rfl rfl (cell_one_new _ _ _) (one_slice _ _ _) (by omega) (by unfold maxLen; omega) (by omega) (by simp; omega) _ rfl ?_)
                                intro gv cv w19 hown19 hgrow19 _ _
                                have HL19 : Hid (Long wD w19 (.slice (some ⟨gv, 0, none⟩) (LL.length + 1) cv) (LL ++ [.slice (some ⟨ge, 0, none⟩) (64 + k) ce])) := (HL17.out.later (below_alloc w17 (.cells #[.slice (some ⟨ge, 0, none⟩) (64 + k) ce] 27))).more (by omega) (OE2.out.alloc _) (by have := HLL.out; omega) hown19 hgrow19
                                have HLN : Hid ((LL ++ [Value.slice (some ⟨ge, 0, none⟩) (64 + k) ce]).length = 5 * (a - 1) + (i + 1)) := by show _ = _; have := HLL.out; simp; omega
                                clear hown19 hgrow19 HL17 OE2 HL6
                                go_wp2_with fail
                                go_roundw
                                case rel => exact ⟨i + 1, _, by omega, by go_num, HLN.out, HL19.out⟩
                                case measure => simp [intOf]; omega
                            · have hf16 : c16 = false := by cases c16 with | false => rfl | true => exact absurd rfl ha16
                              clear hc16 ha16
                              have hkp : 0 < k := by omega
                              have OE : Hid (w17.ownsRow wi.heap.size 5 1 u17 (64 + k) (rep (64 + k) ((i : Int) + 1))) := by
                                rcases HB7.out.2 with ⟨h0, _⟩ | ⟨_, h⟩
                                · omega
                                · exact h
                              obtain ⟨ge, ce, hu17, _, _⟩ := World.ownsRow.form OE.out (by omega)
                              subst hu17
                              have HL17 : Hid (Long wD w17 u14 LL) := HL6.out.later HB7.out.1
                              have hs17 : wD.heap.size ≤ w17.heap.size := HL17.out.below.size
                              have OE2 : Hid (w17.ownsRow wD.heap.size 5 1 (.slice (some ⟨ge, 0, none⟩) (64 + k) ce) (64 + k) (rep (64 + k) ((i : Int) + 1))) := own_mono OE.out HL6.out.below.size
                              have hll : LL.length < 200 := by have := HLL.out; omega
                              clear OE HB7
                              go_wp2_with (at_builtin; refine wpList_append_lies _ rfl (.tmp 129) (.tmp 131) 40 rfl wD.heap.size 27 i27 (.slice none 0 0) 1 24 Tryd.underlying40 hi27 hz270 hz271 hz272 rfl (by omega) u14 LL.length LL rfl (HL17.out.own.alloc _) ⟨w17.heap.size, 0, none⟩ 1 1 [.slice (some ⟨ge, 0, none⟩) (64 + k) ce] rfl rfl (cell_one_new _ _ _) (one_slice _ _ _) (by omega) (by unfold maxLen; omega) (by omega) (by simp; omega) _ rfl ?_)
                              intro gv cv w19 hown19 hgrow19 _ _
                              have HL19 : Hid (Long wD w19 (.slice (some ⟨gv, 0, none⟩) (LL.length + 1) cv) (LL ++ [.slice (some ⟨ge, 0, none⟩) (64 + k) ce])) := (HL17.out.later (below_alloc w17 (.cells #[.slice (some ⟨ge, 0, none⟩) (64 + k) ce] 27))).more (by omega) (OE2.out.alloc _) (by have := HLL.out; omega) hown19 hgrow19
                              have HLN : Hid ((LL ++ [Value.slice (some ⟨ge, 0, none⟩) (64 + k) ce]).length = 5 * (a - 1) + (i + 1)) := by show _ = _; have := HLL.out; simp; omega
                              clear hown19 hgrow19 HL17 OE2 HL6
                              go_wp2_with fail
                              go_roundw
                              case rel => exact ⟨i + 1, _, by omega, by go_num, HLN.out, HL19.out⟩
                              case measure => simp [intOf]; omega
                    · have hi5e : i = 5 := by omega
                      have HLN : Hid (LL.length = 5 * (a + 1 - 1)) := by have := HLL.out; show _ = _; omega
                      clear HLL
                      go_wp2_with fail
                      go_roundw
                      case rel => exact ⟨a + 1, LL, by omega, by omega, by go_num, HLN.out, HL6.out⟩
                      case measure => simp [intOf]; omega
                · have ha17e : a = 17 := by omega
                  have haI : ¬ (a : Int) ≤ 16 := by omega
                  have HV : Hid (LL.length = 80) := by have := HLL.out; show _ = _; omega
                  obtain ⟨gV, cV, hV, _, _⟩ := World.ownsRow.form HLg.out.own (by rw [HV.out]; omega)
                  rw [HV.out] at hV
                  subst hV
                  clear HLL
                  go_wp2_with fail
                  go_loopw [136] (fun i wr => ∃ (q : Nat), q ≤ 80 ∧ i = .int .i64 q ∧ Hid (Long wD wr (.slice (some ⟨gV, 0, none⟩) 80 cV) LL)) (fun i _ => 80 - (intOf i).toNat)
                  case atStart => exact ⟨0, by omega, rfl, HLg.out⟩
                  case round =>
                    obtain ⟨q, hq, rfl, HL8⟩ := hrel
                    clear HLg
                    obtain ⟨we8, hwe8⟩ : ∃ x, x = wr := ⟨_, rfl⟩
                    subst hwe8
                    by_cases hq80 : q < 80
                    · have hqL : q < LL.length := by rw [HV.out]; exact hq80
                      obtain ⟨bq, len, cap, eq, hlen, howq⟩ := HL8.out.entry q hqL
                      have HEQ : Hid (∀ h : q < LL.length, LL[q]'h = .slice (some ⟨bq, 0, none⟩) len cap) := fun _ => eq
                      have hcV : we8.cell? ⟨gV, q, none⟩ = some (.slice (some ⟨bq, 0, none⟩) len cap) := by
                        have ho := HL8.out.own
                        rw [HV.out] at ho
                        exact cells_of ho hq80 (by rw [List.getElem?_eq_getElem hqL, eq]) (Below.refl _ _)
                      have em : (q : Int).tmod 5 = ((q % 5 : Nat) : Int) := by rw [Int.tmod_eq_emod_of_nonneg (by omega)]; omega
                      obtain ⟨m, hm⟩ : ∃ m, m = q % 5 := ⟨_, rfl⟩
                      have HM : Hid (m = q % 5) := hm
                      rw [← hm] at em howq
                      have hm5 : m < 5 := by omega
                      clear hm eq howq hqL
                      have hqi : (q : Int) < 80 := by omega
                      go_wp2_with fail
                      clear hcV
                      go_loopw [144] (fun i wr => ∃ (k : Nat), k ≤ len ∧ i = .int .i64 k ∧ Hid (Long wD wr (.slice (some ⟨gV, 0, none⟩) 80 cV) LL)) (fun i _ => len - (intOf i).toNat)
                      case atStart => exact ⟨0, by omega, rfl, HL8.out⟩
                      case round =>
                        obtain ⟨k, hk, rfl, HL9⟩ := hrel
                        clear HL8
                        obtain ⟨we9, hwe9⟩ : ∃ x, x = wr := ⟨_, rfl⟩
                        subst hwe9
                        by_cases hkl : k < len
                        · have HFIX : Hid (LL[q]'(by rw [HV.out]; exact hq80) = .slice (some ⟨bq, 0, none⟩) len cap) := HEQ.out _
                          have CL : Hid (∀ w', Below we9.heap.size we9 w' → w'.cell? ⟨gV, q, none⟩ = some (.slice (some ⟨bq, 0, none⟩) len cap)) := fun w' hb => by
                            have ho := HL9.out.own
                            rw [HV.out] at ho
                            exact cells_of ho hq80 (by rw [List.getElem?_eq_getElem (by rw [HV.out]; exact hq80), HFIX.out]) hb
                          have CB : Hid (∀ w', Below we9.heap.size we9 w' → w'.cell? ⟨bq, k, none⟩ = some (.int .u8 ((m : Int) + 1))) := fun w' hb => by
                            obtain ⟨b', len', cap', e', _, ho⟩ := HL9.out.entry q (by rw [HV.out]; exact hq80)
                            rw [HFIX.out] at e'
                            simp only [Value.slice.injEq, Option.some.injEq, Addr.mk.injEq, and_true] at e'
                            obtain ⟨rfl, rfl, rfl⟩ := e'
                            rw [← HM.out] at ho
                            exact cells_of ho hkl (by simp [rep, hkl]) hb
                          have m8 : IntKind.u8.wrap ((m : Int) + 1) = (m : Int) + 1 := by rw [IntKind.wrap_u8]; omega
                          have m64 : IntKind.i64.wrap ((m : Int) + 1) = (m : Int) + 1 := by rw [IntKind.wrap_i64]; omega
                          have hki : (k : Int) < (len : Int) := by omega
                          go_wp2_with fail
                          refine wp_region_noPanic ?_
                          refine wp_region_held_drew (S := fun w' => Below we9.heap.size we9 w') (by kernel_rfl) (below_drawn 1) (fun hHeld => ?_)
                          have D9 : Hid (Below we9.heap.size we9 we9.drew) := hHeld
                          generalize we9.drew = wd at *
                          refine wpAnyH_take (i := 0) (v := ?va11) (by simp; rfl) (by kernel_rfl) (by kernel_rfl) (by kernel_rfl) (fun _ _ _ h => h) (Or.inl ⟨by rfl, ?ya11⟩) hHeld ?ra11
                          case ya11 => intro w hSw; clear hSw; go_simp; with_reducible rfl
                          simp only [Act.put, List.setIfInBounds_toArray, List.set_cons_zero, List.set_cons_succ]
                          refine wpAnyH_take (i := 1) (v := ?va12) (by simp; rfl) (by kernel_rfl) (by kernel_rfl) (by kernel_rfl) (fun _ _ _ h => h) (Or.inl ⟨by rfl, ?ya12⟩) hHeld ?ra12
                          case ya12 => intro w hSw; clear hSw; go_simp; with_reducible rfl
                          simp only [Act.put, List.setIfInBounds_toArray, List.set_cons_zero, List.set_cons_succ]
                          refine wpAnyH_take (i := 2) (v := ?va13) (by simp; rfl) (by kernel_rfl) (by kernel_rfl) (by kernel_rfl) (fun _ _ _ h => h) (Or.inl ⟨by rfl, ?ya13⟩) hHeld ?ra13
                          case ya13 => intro w hSw; clear hSw; go_simp; with_reducible rfl
                          simp only [Act.put, List.setIfInBounds_toArray, List.set_cons_zero, List.set_cons_succ]
                          refine wpAnyH_take (i := 3) (v := ?va14) (by simp; rfl) (by kernel_rfl) (by kernel_rfl) (by kernel_rfl) (fun _ _ _ h => h) (Or.inl ⟨by rfl, ?ya14⟩) hHeld ?ra14
                          case ya14 => intro w hSw; have z1 := CL.out _ hSw; clear hSw; go_simp; with_reducible rfl
                          simp only [Act.put, List.setIfInBounds_toArray, List.set_cons_zero, List.set_cons_succ]
                          refine wpAnyH_take (i := 4) (v := ?va15) (by simp; rfl) (by kernel_rfl) (by kernel_rfl) (by kernel_rfl) (fun _ _ _ h => h) (Or.inl ⟨by rfl, ?ya15⟩) hHeld ?ra15
                          case ya15 => intro w hSw; clear hSw; go_simp; with_reducible rfl
                          simp only [Act.put, List.setIfInBounds_toArray, List.set_cons_zero, List.set_cons_succ]
                          refine wpAnyH_take (i := 5) (v := ?va16) (by simp; rfl) (by kernel_rfl) (by kernel_rfl) (by kernel_rfl) (fun _ _ _ h => h) (Or.inl ⟨by rfl, ?ya16⟩) hHeld ?ra16
                          case ya16 => intro w hSw; clear hSw; go_simp; with_reducible rfl
                          simp only [Act.put, List.setIfInBounds_toArray, List.set_cons_zero, List.set_cons_succ]
                          refine wpAnyH_take (i := 6) (v := ?va17) (by simp; rfl) (by kernel_rfl) (by kernel_rfl) (by kernel_rfl) (fun _ _ _ h => h) (Or.inl ⟨by rfl, ?ya17⟩) hHeld ?ra17
                          case ya17 => intro w hSw; have z1 := CB.out _ hSw; clear hSw; go_simp; with_reducible rfl
                          simp only [Act.put, List.setIfInBounds_toArray, List.set_cons_zero, List.set_cons_succ]
                          refine wpAnyH_take (i := 7) (v := ?va18) (by simp; rfl) (by kernel_rfl) (by kernel_rfl) (by kernel_rfl) (fun _ _ _ h => h) (Or.inl ⟨by rfl, ?ya18⟩) hHeld ?ra18
                          case ya18 => intro w hSw; clear hSw; go_simp; with_reducible rfl
                          simp only [Act.put, List.setIfInBounds_toArray, List.set_cons_zero, List.set_cons_succ]
                          refine wpAnyH_take (i := 8) (v := ?va19) (by simp; rfl) (by kernel_rfl) (by kernel_rfl) (by kernel_rfl) (fun _ _ _ h => h) (Or.inl ⟨by rfl, ?ya19⟩) hHeld ?ra19
                          case ya19 => intro w hSw; clear hSw; go_simp; with_reducible rfl
                          simp only [Act.put, List.setIfInBounds_toArray, List.set_cons_zero, List.set_cons_succ]
                          refine wpAnyH_take (i := 9) (v := ?va20) (by simp; rfl) (by kernel_rfl) (by kernel_rfl) (by kernel_rfl) (fun _ _ _ h => h) (Or.inl ⟨by rfl, ?ya20⟩) hHeld ?ra20
                          case ya20 => intro w hSw; clear hSw; go_simp; with_reducible rfl
                          simp only [Act.put, List.setIfInBounds_toArray, List.set_cons_zero, List.set_cons_succ]
                          refine wpAnyH_take (i := 10) (v := ?va21) (by simp; rfl) (by kernel_rfl) (by kernel_rfl) (by kernel_rfl) (fun _ _ _ h => h) (Or.inl ⟨by rfl, ?ya21⟩) hHeld ?ra21
                          case ya21 => intro w hSw; clear hSw; go_simp; with_reducible rfl
                          simp only [Act.put, List.setIfInBounds_toArray, List.set_cons_zero, List.set_cons_succ]
                          refine wpAnyH_take (i := 11) (v := ?va22) (by simp; rfl) (by kernel_rfl) (by kernel_rfl) (by kernel_rfl) (fun _ _ _ h => h) (Or.inl ⟨by rfl, ?ya22⟩) hHeld ?ra22
                          case ya22 => intro w hSw; clear hSw; go_simp; with_reducible rfl
                          simp only [Act.put, List.setIfInBounds_toArray, List.set_cons_zero, List.set_cons_succ]
                          refine wpAnyH_take (i := 12) (v := ?va23) (by simp; rfl) (by kernel_rfl) (by kernel_rfl) (by kernel_rfl) (fun _ _ _ h => h) (Or.inl ⟨by rfl, ?ya23⟩) hHeld ?ra23
                          case ya23 => intro w hSw; clear hSw; go_simp; with_reducible rfl
                          simp only [Act.put, List.setIfInBounds_toArray, List.set_cons_zero, List.set_cons_succ]
                          refine wpAnyH_take (i := 13) (v := ?va24) (by simp; rfl) (by kernel_rfl) (by kernel_rfl) (by kernel_rfl) (fun _ _ _ h => h) (Or.inl ⟨by rfl, ?ya24⟩) hHeld ?ra24
                          case ya24 => intro w hSw; clear hSw; go_simp; with_reducible rfl
                          simp only [Act.put, List.setIfInBounds_toArray, List.set_cons_zero, List.set_cons_succ]
                          refine wpAnyH_done (by kernel_rfl) (NoPanic.normal ?_) _
                          have HL10 : Hid (Long wD wd (.slice (some ⟨gV, 0, none⟩) 80 cV) LL) := HL9.out.later D9.out
                          clear hHeld CL CB HL9 D9 m8 m64 hki
                          go_wp2_with fail
                          go_roundw
                          case rel => exact ⟨k + 1, by omega, by go_num, HL10.out⟩
                          case measure => simp [intOf]; omega
                        · go_wp2_with fail
                          go_roundw
                          case rel => exact ⟨q + 1, by omega, by go_num, HL9.out⟩
                          case measure => simp [intOf]; omega
                    · have HE : Hid (Hand w we8 s t (.slice (some ⟨gl, 0, none⟩) 5 cl) (.slice (some ⟨gw, 0, none⟩) 5 cw) gs (txt5 s t 5) (cm s t 5 0)) := HD.out.later HL8.out.below
                      clear HL8 HD
                      have L55 : Hid (_) := SAt.load26 HE.out.bs
                      go_wp2_with ((with_reducible refine at_ops ?_); (first | (refine wpList_load_is (by rfl) 26 rfl rfl L55.out ?_)); simp only [Act.put, List.setIfInBounds_toArray, List.set_cons_zero, List.set_cons_succ])
                      refine (may_any s HS.out we8).mono ?_
                      rintro e w55 ⟨rfl, b55⟩
                      have HE55 : Hid (Hand w w55 s t (.slice (some ⟨gl, 0, none⟩) 5 cl) (.slice (some ⟨gw, 0, none⟩) 5 cw) gs (txt5 s t 5) (cm s t 5 0)) := HE.out.later b55
                      clear b55 L55 HE
                      go_wp2_with fail
                      refine (encode_good (mayS s) (mayS_wf s) (mayS_may s) w55 (HT.out.later HE55.out.below)).mono ?_
                      rintro e w56 ⟨g56, rfl, m56⟩
                      have HE56 : Hid (Hand w w56 s t (.slice (some ⟨gl, 0, none⟩) 5 cl) (.slice (some ⟨gw, 0, none⟩) 5 cw) gs (txt5 s t 5) (cm s t 5 0)) := HE55.out.later m56.below
                      have E56 : Hid (BIn w56 (some ⟨g56, 0, none⟩) 64 (encS (mayS s))) := m56.read
                      clear m56 HE55
                      have CW : Hid (∀ w', Below w56.heap.size w56 w' → w'.cell? ⟨gw, 0, none⟩ = some (.string (strOfNums (encS (mayS s))))) := fun w' hb => by
                        have hw := HE56.out.were
                        rw [txt5_len] at hw
                        exact cells_of hw (by omega) (txt5_at s t 5 0 (by omega)) hb
                      generalize encS (mayS s) = XX at *
                      go_wp2_with fail
                      refine wp_region_noPanic ?_
                      refine wp_region_held_drew (S := fun w' => Below w56.heap.size w56 w') (by kernel_rfl) (below_drawn 1) (fun hHeld => ?_)
                      have D56 : Hid (Below w56.heap.size w56 w56.drew) := hHeld
                      generalize w56.drew = wd at *
                      refine wpAnyH_take (i := 0) (v := ?va25) (by simp; rfl) (by kernel_rfl) (by kernel_rfl) (by kernel_rfl) (fun _ _ _ h => h) (Or.inl ⟨by rfl, ?ya25⟩) hHeld ?ra25
                      case ya25 => intro w hSw; clear hSw; go_simp; with_reducible rfl
                      simp only [Act.put, List.setIfInBounds_toArray, List.set_cons_zero, List.set_cons_succ]
                      refine wpAnyH_ready (rs := [1]) (by kernel_rfl) (by simp) ?_
                      refine AllReadyH.cons (by simp; rfl) (fun Kc hKc => ?_) AllReadyH.nil
                      go_simp
                      refine (num_any 0 (by decide) wd).mono ?_
                      rintro e wz ⟨rfl, rfl⟩
                      refine hKc.out _ _ D56.out (fun hHeld => ?_)
                      clear hKc Kc
                      refine wpAnyH_take (i := 2) (v := ?va26) (by simp; rfl) (by kernel_rfl) (by kernel_rfl) (by kernel_rfl) (fun _ _ _ h => h) (Or.inl ⟨by rfl, ?ya26⟩) hHeld ?ra26
                      case ya26 => intro w hSw; clear hSw; go_simp; with_reducible rfl
                      simp only [Act.put, List.setIfInBounds_toArray, List.set_cons_zero, List.set_cons_succ]
                      refine wpAnyH_take (i := 3) (v := ?va27) (by simp; rfl) (by kernel_rfl) (by kernel_rfl) (by kernel_rfl) (fun _ _ _ h => h) (Or.inl ⟨by rfl, ?ya27⟩) hHeld ?ra27
                      case ya27 => intro w hSw; clear hSw; go_simp; with_reducible rfl
                      simp only [Act.put, List.setIfInBounds_toArray, List.set_cons_zero, List.set_cons_succ]
                      refine wpAnyH_take (i := 4) (v := ?va28) (by simp; rfl) (by kernel_rfl) (by kernel_rfl) (by kernel_rfl) (fun _ _ _ h => h) (Or.inl ⟨by rfl, ?ya28⟩) hHeld ?ra28
                      case ya28 => intro w hSw; clear hSw; go_simp; with_reducible rfl
                      simp only [Act.put, List.setIfInBounds_toArray, List.set_cons_zero, List.set_cons_succ]
                      refine wpAnyH_take (i := 5) (v := ?va29) (by simp; rfl) (by kernel_rfl) (by kernel_rfl) (by kernel_rfl) (fun _ _ _ h => h) (Or.inl ⟨by rfl, ?ya29⟩) hHeld ?ra29
                      case ya29 => intro w hSw; have z1 := (E56.out.later hSw).str 64; clear hSw; go_simp; with_reducible rfl
                      simp only [Act.put, List.setIfInBounds_toArray, List.set_cons_zero, List.set_cons_succ]
                      refine wpAnyH_take (i := 6) (v := ?va30) (by simp; rfl) (by kernel_rfl) (by kernel_rfl) (by kernel_rfl) (fun _ _ _ h => h) (Or.inl ⟨by rfl, ?ya30⟩) hHeld ?ra30
                      case ya30 => intro w hSw; clear hSw; go_simp; with_reducible rfl
                      simp only [Act.put, List.setIfInBounds_toArray, List.set_cons_zero, List.set_cons_succ]
                      refine wpAnyH_take (i := 7) (v := ?va31) (by simp; rfl) (by kernel_rfl) (by kernel_rfl) (by kernel_rfl) (fun _ _ _ h => h) (Or.inl ⟨by rfl, ?ya31⟩) hHeld ?ra31
                      case ya31 => intro w hSw; clear hSw; go_simp; with_reducible rfl
                      simp only [Act.put, List.setIfInBounds_toArray, List.set_cons_zero, List.set_cons_succ]
                      refine wpAnyH_take (i := 8) (v := ?va32) (by simp; rfl) (by kernel_rfl) (by kernel_rfl) (by kernel_rfl) (fun _ _ _ h => h) (Or.inl ⟨by rfl, ?ya32⟩) hHeld ?ra32
                      case ya32 => intro w hSw; have z1 := CW.out _ hSw; clear hSw; go_simp; with_reducible rfl
                      simp only [Act.put, List.setIfInBounds_toArray, List.set_cons_zero, List.set_cons_succ]
                      refine wpAnyH_take (i := 9) (v := ?va33) (by simp; rfl) (by kernel_rfl) (by kernel_rfl) (by kernel_rfl) (fun _ _ _ h => h) (Or.inl ⟨by rfl, ?ya33⟩) hHeld ?ra33
                      case ya33 => intro w hSw; clear hSw; go_simp; with_reducible rfl
                      simp only [Act.put, List.setIfInBounds_toArray, List.set_cons_zero, List.set_cons_succ]
                      refine wpAnyH_take (i := 10) (v := ?va34) (by simp; rfl) (by kernel_rfl) (by kernel_rfl) (by kernel_rfl) (fun _ _ _ h => h) (Or.inl ⟨by rfl, ?ya34⟩) hHeld ?ra34
                      case ya34 => intro w hSw; clear hSw; go_simp; with_reducible rfl
                      simp only [Act.put, List.setIfInBounds_toArray, List.set_cons_zero, List.set_cons_succ]
                      refine wpAnyH_take (i := 11) (v := ?va35) (by simp; rfl) (by kernel_rfl) (by kernel_rfl) (by kernel_rfl) (fun _ _ _ h => h) (Or.inl ⟨by rfl, ?ya35⟩) hHeld ?ra35
                      case ya35 => intro w hSw; clear hSw; go_simp; with_reducible rfl
                      simp only [Act.put, List.setIfInBounds_toArray, List.set_cons_zero, List.set_cons_succ]
                      refine wpAnyH_done (by kernel_rfl) (NoPanic.normal ?_) _
                      clear hHeld
                      go_wp2_with fail
                      go_ret
                      exact ⟨by simp, below_then HE56.out.below D56.out⟩
end Go.Proofs.YtcfofoddfhbkcaaDoor
