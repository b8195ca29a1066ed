/-
  SuperBack walked.
-/
import Derived.Test.YtcfofoddfhbkcaaDoorTc
import Derived.BigRegion
namespace Go.Proofs.YtcfofoddfhbkcaaDoor
open Go.RowKit

/-- 'append([]byte{}, x...)', behind which the walk goes on: what it makes -/
theorem made_of_append {w w' : World} {v : Value} {n : Nat} {xs : List Int} (hx : Bytes xs) (hown : w'.ownsRow w.heap.size 5 1 v n (U8 xs)) (hgrow : (w.alloc (.cells #[] 5)).grownBy w' (Value.slice (some ⟨w.heap.size, 0, none⟩) 0 0).ownBlock) : ∃ p c, v = .slice p n c ∧ Made w w' p n c xs := by
  have hb : Below w.heap.size w w' := ((Below.refl _ w).alloc (Nat.le_refl _) _).grown hgrow (by simp) (by intro k hk; simp [Value.ownBlock] at hk; omega)
  exact made_of hown hx hb
theorem eq_strings (x y : Sup) (hx : x.Wf) (hy : y.Wf) (h1 : May x) (h2 : May y) : ((strOfNums (encS x)).toList == (strOfNums (encS y)).toList) = supB x y := by
  rw [str_eq _ _ (encS_bytes x) (encS_bytes y)]
  by_cases h : x = y
  · subst h; rw [supB_same]; simp
  · rw [supB_not x y h, decide_eq_false fun e => h (encS_inj x y hx hy h1 h2 e)]

set_option maxHeartbeats 8000000 in
set_option maxRecDepth 100000 in
theorem superBack_any (s t : Sup) (hs : s.Wf) (htw : t.Wf) (p : Option Addr) (n c : Nat) (xs : List Int) (w : World) (h : SB w p n c xs) (hbig : n ≤ 140737488351232) (ht : Tab w) :
    Calls Tryd.prog 3 #[.agg (scells s).toArray, .agg (scells t).toArray, .slice p n c] w fun e w' => e = .returned (.bool true) ∧ Below w.heap.size w w' := by
  obtain ⟨i0, hi, hz0, hz1, hz2⟩ := info_parts info5
  have HT : Hid (Tab w) := ht
  have HS : Hid (s.Wf) := hs
  have HTW : Hid (t.Wf) := htw
  obtain ⟨wb, hwb⟩ : ∃ x, x = (w.alloc (.cells (scells s).toArray 26)).alloc (.cells (scells t).toArray 26) := ⟨_, rfl⟩
  have B0 : Hid (Below w.heap.size w wb) := by rw [hwb]; exact below_then (below_alloc w _) (below_alloc _ _)
  have R0 : Hid (SAt 26 wb w.heap.size s) := by rw [hwb]; exact LAt.later (LAt.new 26 w (scells s)) (below_alloc _ _)
  have S0 : Hid (SAt 26 wb (w.heap.size + 1) t) := by
    have := LAt.new 26 (w.alloc (.cells (scells s).toArray 26)) (scells t)
    rw [show (w.alloc (.cells (scells s).toArray 26)).heap.size = w.heap.size + 1 by simp] at this
    rw [hwb]
    exact this
  have H0 : Hid (SB wb p n c xs) := h.later B0.out
  have HH : Hid (SB w p n c xs) := h
  have ewb := hwb.symm
  clear hs htw ht h hwb
  go_enter Tryd.func3, Tryd.ntmps3
  go_wp2_with fail
  clear ewb
  refine (awake_any wb (HT.out.later B0.out)).mono ?_
  rintro e w1 ⟨rfl, b1⟩
  have R1 : Hid (SAt 26 w1 w.heap.size s) := LAt.later R0.out b1
  have S1 : Hid (SAt 26 w1 (w.heap.size + 1) t) := LAt.later S0.out b1
  have H1 : Hid (SB w1 p n c xs) := H0.out.later b1
  have B1 : Hid (Below w.heap.size w w1) := below_then B0.out b1
  clear b1 R0 S0 H0 B0
  go_wp2_with fail
  obtain ⟨x, hx⟩ : ∃ x, x = mayS s := ⟨_, rfl⟩
  obtain ⟨y, hy⟩ : ∃ y, y = mayS t := ⟨_, rfl⟩
  have X0 : Hid (x.Wf ∧ May x) := by rw [hx]; exact ⟨mayS_wf s, mayS_may s⟩
  have Y0 : Hid (y.Wf ∧ May y) := by rw [hy]; exact ⟨mayS_wf t, mayS_may t⟩
  have MX : Hid (∀ w, Calls Tryd.prog 10 #[.agg (scells s).toArray] w fun e w' => e = .returned (.agg (scells x).toArray) ∧ Below w.heap.size w w') := fun w => by rw [hx]; exact may_any s HS.out w
  have MY : Hid (∀ w, Calls Tryd.prog 10 #[.agg (scells t).toArray] w fun e w' => e = .returned (.agg (scells y).toArray) ∧ Below w.heap.size w w') := fun w => by rw [hy]; exact may_any t HTW.out w
  clear hx hy
  refine Code.wp_mono (Q := fun e a W => ∃ (g7 g8 : Nat), e = .normal ∧ Hid (SAt 29 W g7 x ∧ SAt 29 W g8 y ∧ Below w1.heap.size w1 W) ∧ a = { tmps := #[.agg (scells s).toArray, .agg (scells t).toArray, .slice p n c, .pointer (some ⟨w.heap.size, 0, none⟩), .pointer (some ⟨w.heap.size + 1, 0, none⟩), undef, .bool false, .pointer (some ⟨g7, 0, none⟩), .pointer (some ⟨g8, 0, none⟩), undef, undef, undef, undef, undef, undef, undef, undef, .bool true, .bool false, .agg (scells s).toArray, .agg (scells x).toArray, .agg (scells t).toArray, .agg (scells y).toArray, undef, undef, undef, undef, undef, undef, undef, undef, undef, undef, undef, undef, undef, undef, undef, undef, undef, undef, undef, undef, undef, undef, undef, undef, undef, undef, undef, undef, undef, undef, undef, undef, undef, undef, undef, undef, undef, undef, undef, undef, undef, undef, undef, undef, undef, undef, undef, undef, undef, undef, undef, undef, undef, undef, undef, undef, undef, undef, undef, undef, undef, undef, undef, undef, undef, undef, undef, undef, undef, undef, undef, undef, undef, undef, undef, undef, undef], defers := [] }) ?rest ?reg
  case reg =>
    refine wp_region_noPanic ?_
    refine wp_region_held_drew (S := fun w' => Below w1.heap.size w1 w') (by kernel_rfl) (below_drawn 1) (fun hHeld => ?_)
    have D1 : Hid (Below w1.heap.size w1 w1.drew) := hHeld
    have szd : w1.heap.size ≤ w1.drew.heap.size := Nat.le_refl _
    generalize w1.drew = wd at *
    refine wpAnyH_take (i := 0) (v := _) (by simp; rfl) (by kernel_rfl) (by kernel_rfl) (by kernel_rfl) (fun _ _ _ h => h) (yieldsIf_load_mid (by rfl) 26 (.tmp 3) rfl w.heap.size 0 rfl (scells s) _ (fun _ h => LAt.range (LAt.later R1.out h)) Tryd.underlying26 rfl (by rw [size26, scells_len])) hHeld ?_
    simp only [Act.put, List.setIfInBounds_toArray, List.set_cons_zero, List.set_cons_succ]
    refine wpAnyH_take (i := 2) (v := _) (by simp; rfl) (by kernel_rfl) (by kernel_rfl) (by kernel_rfl) (fun _ _ _ h => h) (yieldsIf_load_mid (by rfl) 26 (.tmp 4) rfl (w.heap.size + 1) 0 rfl (scells t) _ (fun _ h => LAt.range (LAt.later S1.out h)) Tryd.underlying26 rfl (by rw [size26, scells_len])) hHeld ?_
    simp only [Act.put, List.setIfInBounds_toArray, List.set_cons_zero, List.set_cons_succ]
    refine wpAnyH_ready (rs := [1, 4, 5]) (by kernel_rfl) (by simp) ?_
    refine AllReadyH.cons (by simp; rfl) (fun Kc hKc => ?_) (AllReadyH.cons (by simp; rfl) (fun Kc hKc => ?_) (AllReadyH.cons (by simp; rfl) (fun Kc hKc => ?_) AllReadyH.nil))
    · go_simp
      refine (MX.out wd).mono ?_
      rintro e wn1 ⟨rfl, bn⟩
      have Dn1 : Hid (Below w1.heap.size w1 wn1) := below_then D1.out bn
      have sz1 := bn.size
      clear bn
      refine hKc.out _ _ Dn1.out (fun hHeld => ?_)
      clear hKc Kc
      refine wpAnyH_ready (rs := [3, 4, 5]) (by kernel_rfl) (by simp) ?_
      refine AllReadyH.cons (by simp; rfl) (fun Kc hKc => ?_) (AllReadyH.cons (by simp; rfl) (fun Kc hKc => ?_) (AllReadyH.cons (by simp; rfl) (fun Kc hKc => ?_) AllReadyH.nil))
      · go_simp
        refine (MY.out wn1).mono ?_
        rintro e wn2 ⟨rfl, bn⟩
        have Dn2 : Hid (Below w1.heap.size w1 wn2) := below_then Dn1.out bn
        have sz2 := bn.size
        clear bn
        refine hKc.out _ _ Dn2.out (fun hHeld => ?_)
        clear hKc Kc
        refine wpAnyH_ready (rs := [4, 5]) (by kernel_rfl) (by simp) ?_
        refine AllReadyH.cons (by simp; rfl) (fun Kc hKc => ?_) (AllReadyH.cons (by simp; rfl) (fun Kc hKc => ?_) AllReadyH.nil)
        · rw [if_pos (by rfl)]
          refine wp_alloc_is 29 rfl (alloc29 wn2) ?_
          simp only [Act.put, List.setIfInBounds_toArray, List.set_cons_zero, List.set_cons_succ]
          have Dn3 : Hid (Below w1.heap.size w1 (wn2.alloc (.cells (scells sup0).toArray 29))) := below_then Dn2.out (below_alloc wn2 _)
          have sz3 : wn2.heap.size < (wn2.alloc (.cells (scells sup0).toArray 29)).heap.size := by simp
          have bs3 := Dn2.out.size
          have G7n3 : Hid (SAt 29 (wn2.alloc (.cells (scells sup0).toArray 29)) wn2.heap.size sup0) := LAt.new 29 wn2 _
          refine hKc.out _ _ Dn3.out (fun hHeld => ?_)
          clear hKc Kc
          generalize wn2.alloc (.cells (scells sup0).toArray 29) = wn3 at *
          refine wpAnyH_ready (rs := [5]) (by kernel_rfl) (by simp) ?_
          refine AllReadyH.cons (by simp; rfl) (fun Kc hKc => ?_) AllReadyH.nil
          rw [if_pos (by rfl)]
          refine wp_alloc_is 29 rfl (alloc29 wn3) ?_
          simp only [Act.put, List.setIfInBounds_toArray, List.set_cons_zero, List.set_cons_succ]
          have Dn4 : Hid (Below w1.heap.size w1 (wn3.alloc (.cells (scells sup0).toArray 29))) := below_then Dn3.out (below_alloc wn3 _)
          have sz4 : wn3.heap.size < (wn3.alloc (.cells (scells sup0).toArray 29)).heap.size := by simp
          have bs4 := Dn3.out.size
          have G8n4 : Hid (SAt 29 (wn3.alloc (.cells (scells sup0).toArray 29)) wn3.heap.size sup0) := LAt.new 29 wn3 _
          have G7n4 : Hid (SAt 29 (wn3.alloc (.cells (scells sup0).toArray 29)) wn2.heap.size sup0) := LAt.later G7n3.out (below_alloc wn3 _)
          refine hKc.out _ _ Dn4.out (fun hHeld => ?_)
          clear hKc Kc
          generalize wn3.alloc (.cells (scells sup0).toArray 29) = wn4 at *
          refine wpAnyH_ready (rs := [6]) (by kernel_rfl) (by simp) ?_
          refine AllReadyH.cons (by simp; rfl) (fun Kc hKc => ?_) AllReadyH.nil
          rw [if_pos (by rfl)]
          refine wp_store_is 29 rfl rfl rfl (LAt.store (ds := scells x) G7n4.out size29 rfl (scells_all x)) ?_
          simp only [Act.put]
          have Dn5 : Hid (Below w1.heap.size w1 (wn4.setRow wn2.heap.size (scells x).toArray)) := below_setRow Dn4.out (by omega) _
          have G7n5 : Hid (SAt 29 (wn4.setRow wn2.heap.size (scells x).toArray) wn2.heap.size x) := LAt.stored G7n4.out _
          have G8n5 : Hid (SAt 29 (wn4.setRow wn2.heap.size (scells x).toArray) wn3.heap.size sup0) := LAt.other G8n4.out _ (by omega)
          refine hKc.out _ _ Dn5.out (fun hHeld => ?_)
          clear hKc Kc
          generalize wn4.setRow wn2.heap.size (scells x).toArray = wn5 at *
          refine wpAnyH_ready (rs := [7]) (by kernel_rfl) (by simp) ?_
          refine AllReadyH.cons (by simp; rfl) (fun Kc hKc => ?_) AllReadyH.nil
          rw [if_pos (by rfl)]
          refine wp_store_is 29 rfl rfl rfl (LAt.store (ds := scells y) G8n5.out size29 rfl (scells_all y)) ?_
          simp only [Act.put]
          have Dn6 : Hid (Below w1.heap.size w1 (wn5.setRow wn3.heap.size (scells y).toArray)) := below_setRow Dn5.out (by omega) _
          have G8n6 : Hid (SAt 29 (wn5.setRow wn3.heap.size (scells y).toArray) wn3.heap.size y) := LAt.stored G8n5.out _
          have G7n6 : Hid (SAt 29 (wn5.setRow wn3.heap.size (scells y).toArray) wn2.heap.size x) := LAt.other G7n5.out _ (by omega)
          refine hKc.out _ _ Dn6.out (fun hHeld => ?_)
          clear hKc Kc
          refine wpAnyH_done (by kernel_rfl) (NoPanic.normal ?_) _
          exact ⟨wn2.heap.size, wn3.heap.size, rfl, ⟨G7n6.out, G8n6.out, Dn6.out⟩, rfl⟩
        · rw [if_pos (by rfl)]
          refine wp_alloc_is 29 rfl (alloc29 wn2) ?_
          simp only [Act.put, List.setIfInBounds_toArray, List.set_cons_zero, List.set_cons_succ]
          have Dn7 : Hid (Below w1.heap.size w1 (wn2.alloc (.cells (scells sup0).toArray 29))) := below_then Dn2.out (below_alloc wn2 _)
          have sz7 : wn2.heap.size < (wn2.alloc (.cells (scells sup0).toArray 29)).heap.size := by simp
          have bs7 := Dn2.out.size
          have G8n7 : Hid (SAt 29 (wn2.alloc (.cells (scells sup0).toArray 29)) wn2.heap.size sup0) := LAt.new 29 wn2 _
          refine hKc.out _ _ Dn7.out (fun hHeld => ?_)
          clear hKc Kc
          generalize wn2.alloc (.cells (scells sup0).toArray 29) = wn7 at *
          refine wpAnyH_ready (rs := [4]) (by kernel_rfl) (by simp) ?_
          refine AllReadyH.cons (by simp; rfl) (fun Kc hKc => ?_) AllReadyH.nil
          rw [if_pos (by rfl)]
          refine wp_alloc_is 29 rfl (alloc29 wn7) ?_
          simp only [Act.put, List.setIfInBounds_toArray, List.set_cons_zero, List.set_cons_succ]
          have Dn8 : Hid (Below w1.heap.size w1 (wn7.alloc (.cells (scells sup0).toArray 29))) := below_then Dn7.out (below_alloc wn7 _)
          have sz8 : wn7.heap.size < (wn7.alloc (.cells (scells sup0).toArray 29)).heap.size := by simp
          have bs8 := Dn7.out.size
          have G7n8 : Hid (SAt 29 (wn7.alloc (.cells (scells sup0).toArray 29)) wn7.heap.size sup0) := LAt.new 29 wn7 _
          have G8n8 : Hid (SAt 29 (wn7.alloc (.cells (scells sup0).toArray 29)) wn2.heap.size sup0) := LAt.later G8n7.out (below_alloc wn7 _)
          refine hKc.out _ _ Dn8.out (fun hHeld => ?_)
          clear hKc Kc
          generalize wn7.alloc (.cells (scells sup0).toArray 29) = wn8 at *
          refine wpAnyH_ready (rs := [6]) (by kernel_rfl) (by simp) ?_
          refine AllReadyH.cons (by simp; rfl) (fun Kc hKc => ?_) AllReadyH.nil
          rw [if_pos (by rfl)]
          refine wp_store_is 29 rfl rfl rfl (LAt.store (ds := scells x) G7n8.out size29 rfl (scells_all x)) ?_
          simp only [Act.put]
          have Dn9 : Hid (Below w1.heap.size w1 (wn8.setRow wn7.heap.size (scells x).toArray)) := below_setRow Dn8.out (by omega) _
          have G7n9 : Hid (SAt 29 (wn8.setRow wn7.heap.size (scells x).toArray) wn7.heap.size x) := LAt.stored G7n8.out _
          have G8n9 : Hid (SAt 29 (wn8.setRow wn7.heap.size (scells x).toArray) wn2.heap.size sup0) := LAt.other G8n8.out _ (by omega)
          refine hKc.out _ _ Dn9.out (fun hHeld => ?_)
          clear hKc Kc
          generalize wn8.setRow wn7.heap.size (scells x).toArray = wn9 at *
          refine wpAnyH_ready (rs := [7]) (by kernel_rfl) (by simp) ?_
          refine AllReadyH.cons (by simp; rfl) (fun Kc hKc => ?_) AllReadyH.nil
          rw [if_pos (by rfl)]
          refine wp_store_is 29 rfl rfl rfl (LAt.store (ds := scells y) G8n9.out size29 rfl (scells_all y)) ?_
          simp only [Act.put]
          have Dn10 : Hid (Below w1.heap.size w1 (wn9.setRow wn2.heap.size (scells y).toArray)) := below_setRow Dn9.out (by omega) _
          have G8n10 : Hid (SAt 29 (wn9.setRow wn2.heap.size (scells y).toArray) wn2.heap.size y) := LAt.stored G8n9.out _
          have G7n10 : Hid (SAt 29 (wn9.setRow wn2.heap.size (scells y).toArray) wn7.heap.size x) := LAt.other G7n9.out _ (by omega)
          refine hKc.out _ _ Dn10.out (fun hHeld => ?_)
          clear hKc Kc
          refine wpAnyH_done (by kernel_rfl) (NoPanic.normal ?_) _
          exact ⟨wn7.heap.size, wn2.heap.size, rfl, ⟨G7n10.out, G8n10.out, Dn10.out⟩, rfl⟩
      · rw [if_pos (by rfl)]
        refine wp_alloc_is 29 rfl (alloc29 wn1) ?_
        simp only [Act.put, List.setIfInBounds_toArray, List.set_cons_zero, List.set_cons_succ]
        have Dn11 : Hid (Below w1.heap.size w1 (wn1.alloc (.cells (scells sup0).toArray 29))) := below_then Dn1.out (below_alloc wn1 _)
        have sz11 : wn1.heap.size < (wn1.alloc (.cells (scells sup0).toArray 29)).heap.size := by simp
        have bs11 := Dn1.out.size
        have G7n11 : Hid (SAt 29 (wn1.alloc (.cells (scells sup0).toArray 29)) wn1.heap.size sup0) := LAt.new 29 wn1 _
        refine hKc.out _ _ Dn11.out (fun hHeld => ?_)
        clear hKc Kc
        generalize wn1.alloc (.cells (scells sup0).toArray 29) = wn11 at *
        refine wpAnyH_ready (rs := [3, 5]) (by kernel_rfl) (by simp) ?_
        refine AllReadyH.cons (by simp; rfl) (fun Kc hKc => ?_) (AllReadyH.cons (by simp; rfl) (fun Kc hKc => ?_) AllReadyH.nil)
        · go_simp
          refine (MY.out wn11).mono ?_
          rintro e wn12 ⟨rfl, bn⟩
          have Dn12 : Hid (Below w1.heap.size w1 wn12) := below_then Dn11.out bn
          have sz12 := bn.size
          have G7n12 : Hid (SAt 29 wn12 wn1.heap.size sup0) := LAt.later G7n11.out bn
          clear bn
          refine hKc.out _ _ Dn12.out (fun hHeld => ?_)
          clear hKc Kc
          refine wpAnyH_ready (rs := [5]) (by kernel_rfl) (by simp) ?_
          refine AllReadyH.cons (by simp; rfl) (fun Kc hKc => ?_) AllReadyH.nil
          rw [if_pos (by rfl)]
          refine wp_alloc_is 29 rfl (alloc29 wn12) ?_
          simp only [Act.put, List.setIfInBounds_toArray, List.set_cons_zero, List.set_cons_succ]
          have Dn13 : Hid (Below w1.heap.size w1 (wn12.alloc (.cells (scells sup0).toArray 29))) := below_then Dn12.out (below_alloc wn12 _)
          have sz13 : wn12.heap.size < (wn12.alloc (.cells (scells sup0).toArray 29)).heap.size := by simp
          have bs13 := Dn12.out.size
          have G8n13 : Hid (SAt 29 (wn12.alloc (.cells (scells sup0).toArray 29)) wn12.heap.size sup0) := LAt.new 29 wn12 _
          have G7n13 : Hid (SAt 29 (wn12.alloc (.cells (scells sup0).toArray 29)) wn1.heap.size sup0) := LAt.later G7n12.out (below_alloc wn12 _)
          refine hKc.out _ _ Dn13.out (fun hHeld => ?_)
          clear hKc Kc
          generalize wn12.alloc (.cells (scells sup0).toArray 29) = wn13 at *
          refine wpAnyH_ready (rs := [6]) (by kernel_rfl) (by simp) ?_
          refine AllReadyH.cons (by simp; rfl) (fun Kc hKc => ?_) AllReadyH.nil
          rw [if_pos (by rfl)]
          refine wp_store_is 29 rfl rfl rfl (LAt.store (ds := scells x) G7n13.out size29 rfl (scells_all x)) ?_
          simp only [Act.put]
          have Dn14 : Hid (Below w1.heap.size w1 (wn13.setRow wn1.heap.size (scells x).toArray)) := below_setRow Dn13.out (by omega) _
          have G7n14 : Hid (SAt 29 (wn13.setRow wn1.heap.size (scells x).toArray) wn1.heap.size x) := LAt.stored G7n13.out _
          have G8n14 : Hid (SAt 29 (wn13.setRow wn1.heap.size (scells x).toArray) wn12.heap.size sup0) := LAt.other G8n13.out _ (by omega)
          refine hKc.out _ _ Dn14.out (fun hHeld => ?_)
          clear hKc Kc
          generalize wn13.setRow wn1.heap.size (scells x).toArray = wn14 at *
          refine wpAnyH_ready (rs := [7]) (by kernel_rfl) (by simp) ?_
          refine AllReadyH.cons (by simp; rfl) (fun Kc hKc => ?_) AllReadyH.nil
          rw [if_pos (by rfl)]
          refine wp_store_is 29 rfl rfl rfl (LAt.store (ds := scells y) G8n14.out size29 rfl (scells_all y)) ?_
          simp only [Act.put]
          have Dn15 : Hid (Below w1.heap.size w1 (wn14.setRow wn12.heap.size (scells y).toArray)) := below_setRow Dn14.out (by omega) _
          have G8n15 : Hid (SAt 29 (wn14.setRow wn12.heap.size (scells y).toArray) wn12.heap.size y) := LAt.stored G8n14.out _
          have G7n15 : Hid (SAt 29 (wn14.setRow wn12.heap.size (scells y).toArray) wn1.heap.size x) := LAt.other G7n14.out _ (by omega)
          refine hKc.out _ _ Dn15.out (fun hHeld => ?_)
          clear hKc Kc
          refine wpAnyH_done (by kernel_rfl) (NoPanic.normal ?_) _
          exact ⟨wn1.heap.size, wn12.heap.size, rfl, ⟨G7n15.out, G8n15.out, Dn15.out⟩, rfl⟩
        · rw [if_pos (by rfl)]
          refine wp_alloc_is 29 rfl (alloc29 wn11) ?_
          simp only [Act.put, List.setIfInBounds_toArray, List.set_cons_zero, List.set_cons_succ]
          have Dn16 : Hid (Below w1.heap.size w1 (wn11.alloc (.cells (scells sup0).toArray 29))) := below_then Dn11.out (below_alloc wn11 _)
          have sz16 : wn11.heap.size < (wn11.alloc (.cells (scells sup0).toArray 29)).heap.size := by simp
          have bs16 := Dn11.out.size
          have G8n16 : Hid (SAt 29 (wn11.alloc (.cells (scells sup0).toArray 29)) wn11.heap.size sup0) := LAt.new 29 wn11 _
          have G7n16 : Hid (SAt 29 (wn11.alloc (.cells (scells sup0).toArray 29)) wn1.heap.size sup0) := LAt.later G7n11.out (below_alloc wn11 _)
          refine hKc.out _ _ Dn16.out (fun hHeld => ?_)
          clear hKc Kc
          generalize wn11.alloc (.cells (scells sup0).toArray 29) = wn16 at *
          refine wpAnyH_ready (rs := [3]) (by kernel_rfl) (by simp) ?_
          refine AllReadyH.cons (by simp; rfl) (fun Kc hKc => ?_) AllReadyH.nil
          go_simp
          refine (MY.out wn16).mono ?_
          rintro e wn17 ⟨rfl, bn⟩
          have Dn17 : Hid (Below w1.heap.size w1 wn17) := below_then Dn16.out bn
          have sz17 := bn.size
          have G7n17 : Hid (SAt 29 wn17 wn1.heap.size sup0) := LAt.later G7n16.out bn
          have G8n17 : Hid (SAt 29 wn17 wn11.heap.size sup0) := LAt.later G8n16.out bn
          clear bn
          refine hKc.out _ _ Dn17.out (fun hHeld => ?_)
          clear hKc Kc
          refine wpAnyH_ready (rs := [6]) (by kernel_rfl) (by simp) ?_
          refine AllReadyH.cons (by simp; rfl) (fun Kc hKc => ?_) AllReadyH.nil
          rw [if_pos (by rfl)]
          refine wp_store_is 29 rfl rfl rfl (LAt.store (ds := scells x) G7n17.out size29 rfl (scells_all x)) ?_
          simp only [Act.put]
          have Dn18 : Hid (Below w1.heap.size w1 (wn17.setRow wn1.heap.size (scells x).toArray)) := below_setRow Dn17.out (by omega) _
          have G7n18 : Hid (SAt 29 (wn17.setRow wn1.heap.size (scells x).toArray) wn1.heap.size x) := LAt.stored G7n17.out _
          have G8n18 : Hid (SAt 29 (wn17.setRow wn1.heap.size (scells x).toArray) wn11.heap.size sup0) := LAt.other G8n17.out _ (by omega)
          refine hKc.out _ _ Dn18.out (fun hHeld => ?_)
          clear hKc Kc
          generalize wn17.setRow wn1.heap.size (scells x).toArray = wn18 at *
          refine wpAnyH_ready (rs := [7]) (by kernel_rfl) (by simp) ?_
          refine AllReadyH.cons (by simp; rfl) (fun Kc hKc => ?_) AllReadyH.nil
          rw [if_pos (by rfl)]
          refine wp_store_is 29 rfl rfl rfl (LAt.store (ds := scells y) G8n18.out size29 rfl (scells_all y)) ?_
          simp only [Act.put]
          have Dn19 : Hid (Below w1.heap.size w1 (wn18.setRow wn11.heap.size (scells y).toArray)) := below_setRow Dn18.out (by omega) _
          have G8n19 : Hid (SAt 29 (wn18.setRow wn11.heap.size (scells y).toArray) wn11.heap.size y) := LAt.stored G8n18.out _
          have G7n19 : Hid (SAt 29 (wn18.setRow wn11.heap.size (scells y).toArray) wn1.heap.size x) := LAt.other G7n18.out _ (by omega)
          refine hKc.out _ _ Dn19.out (fun hHeld => ?_)
          clear hKc Kc
          refine wpAnyH_done (by kernel_rfl) (NoPanic.normal ?_) _
          exact ⟨wn1.heap.size, wn11.heap.size, rfl, ⟨G7n19.out, G8n19.out, Dn19.out⟩, rfl⟩
      · rw [if_pos (by rfl)]
        refine wp_alloc_is 29 rfl (alloc29 wn1) ?_
        simp only [Act.put, List.setIfInBounds_toArray, List.set_cons_zero, List.set_cons_succ]
        have Dn20 : Hid (Below w1.heap.size w1 (wn1.alloc (.cells (scells sup0).toArray 29))) := below_then Dn1.out (below_alloc wn1 _)
        have sz20 : wn1.heap.size < (wn1.alloc (.cells (scells sup0).toArray 29)).heap.size := by simp
        have bs20 := Dn1.out.size
        have G8n20 : Hid (SAt 29 (wn1.alloc (.cells (scells sup0).toArray 29)) wn1.heap.size sup0) := LAt.new 29 wn1 _
        refine hKc.out _ _ Dn20.out (fun hHeld => ?_)
        clear hKc Kc
        generalize wn1.alloc (.cells (scells sup0).toArray 29) = wn20 at *
        refine wpAnyH_ready (rs := [3, 4]) (by kernel_rfl) (by simp) ?_
        refine AllReadyH.cons (by simp; rfl) (fun Kc hKc => ?_) (AllReadyH.cons (by simp; rfl) (fun Kc hKc => ?_) AllReadyH.nil)
        · go_simp
          refine (MY.out wn20).mono ?_
          rintro e wn21 ⟨rfl, bn⟩
          have Dn21 : Hid (Below w1.heap.size w1 wn21) := below_then Dn20.out bn
          have sz21 := bn.size
          have G8n21 : Hid (SAt 29 wn21 wn1.heap.size sup0) := LAt.later G8n20.out bn
          clear bn
          refine hKc.out _ _ Dn21.out (fun hHeld => ?_)
          clear hKc Kc
          refine wpAnyH_ready (rs := [4]) (by kernel_rfl) (by simp) ?_
          refine AllReadyH.cons (by simp; rfl) (fun Kc hKc => ?_) AllReadyH.nil
          rw [if_pos (by rfl)]
          refine wp_alloc_is 29 rfl (alloc29 wn21) ?_
          simp only [Act.put, List.setIfInBounds_toArray, List.set_cons_zero, List.set_cons_succ]
          have Dn22 : Hid (Below w1.heap.size w1 (wn21.alloc (.cells (scells sup0).toArray 29))) := below_then Dn21.out (below_alloc wn21 _)
          have sz22 : wn21.heap.size < (wn21.alloc (.cells (scells sup0).toArray 29)).heap.size := by simp
          have bs22 := Dn21.out.size
          have G7n22 : Hid (SAt 29 (wn21.alloc (.cells (scells sup0).toArray 29)) wn21.heap.size sup0) := LAt.new 29 wn21 _
          have G8n22 : Hid (SAt 29 (wn21.alloc (.cells (scells sup0).toArray 29)) wn1.heap.size sup0) := LAt.later G8n21.out (below_alloc wn21 _)
          refine hKc.out _ _ Dn22.out (fun hHeld => ?_)
          clear hKc Kc
          generalize wn21.alloc (.cells (scells sup0).toArray 29) = wn22 at *
          refine wpAnyH_ready (rs := [6]) (by kernel_rfl) (by simp) ?_
          refine AllReadyH.cons (by simp; rfl) (fun Kc hKc => ?_) AllReadyH.nil
          rw [if_pos (by rfl)]
          refine wp_store_is 29 rfl rfl rfl (LAt.store (ds := scells x) G7n22.out size29 rfl (scells_all x)) ?_
          simp only [Act.put]
          have Dn23 : Hid (Below w1.heap.size w1 (wn22.setRow wn21.heap.size (scells x).toArray)) := below_setRow Dn22.out (by omega) _
          have G7n23 : Hid (SAt 29 (wn22.setRow wn21.heap.size (scells x).toArray) wn21.heap.size x) := LAt.stored G7n22.out _
          have G8n23 : Hid (SAt 29 (wn22.setRow wn21.heap.size (scells x).toArray) wn1.heap.size sup0) := LAt.other G8n22.out _ (by omega)
          refine hKc.out _ _ Dn23.out (fun hHeld => ?_)
          clear hKc Kc
          generalize wn22.setRow wn21.heap.size (scells x).toArray = wn23 at *
          refine wpAnyH_ready (rs := [7]) (by kernel_rfl) (by simp) ?_
          refine AllReadyH.cons (by simp; rfl) (fun Kc hKc => ?_) AllReadyH.nil
          rw [if_pos (by rfl)]
          refine wp_store_is 29 rfl rfl rfl (LAt.store (ds := scells y) G8n23.out size29 rfl (scells_all y)) ?_
          simp only [Act.put]
          have Dn24 : Hid (Below w1.heap.size w1 (wn23.setRow wn1.heap.size (scells y).toArray)) := below_setRow Dn23.out (by omega) _
          have G8n24 : Hid (SAt 29 (wn23.setRow wn1.heap.size (scells y).toArray) wn1.heap.size y) := LAt.stored G8n23.out _
          have G7n24 : Hid (SAt 29 (wn23.setRow wn1.heap.size (scells y).toArray) wn21.heap.size x) := LAt.other G7n23.out _ (by omega)
          refine hKc.out _ _ Dn24.out (fun hHeld => ?_)
          clear hKc Kc
          refine wpAnyH_done (by kernel_rfl) (NoPanic.normal ?_) _
          exact ⟨wn21.heap.size, wn1.heap.size, rfl, ⟨G7n24.out, G8n24.out, Dn24.out⟩, rfl⟩
        · rw [if_pos (by rfl)]
          refine wp_alloc_is 29 rfl (alloc29 wn20) ?_
          simp only [Act.put, List.setIfInBounds_toArray, List.set_cons_zero, List.set_cons_succ]
          have Dn25 : Hid (Below w1.heap.size w1 (wn20.alloc (.cells (scells sup0).toArray 29))) := below_then Dn20.out (below_alloc wn20 _)
          have sz25 : wn20.heap.size < (wn20.alloc (.cells (scells sup0).toArray 29)).heap.size := by simp
          have bs25 := Dn20.out.size
          have G7n25 : Hid (SAt 29 (wn20.alloc (.cells (scells sup0).toArray 29)) wn20.heap.size sup0) := LAt.new 29 wn20 _
          have G8n25 : Hid (SAt 29 (wn20.alloc (.cells (scells sup0).toArray 29)) wn1.heap.size sup0) := LAt.later G8n20.out (below_alloc wn20 _)
          refine hKc.out _ _ Dn25.out (fun hHeld => ?_)
          clear hKc Kc
          generalize wn20.alloc (.cells (scells sup0).toArray 29) = wn25 at *
          refine wpAnyH_ready (rs := [3]) (by kernel_rfl) (by simp) ?_
          refine AllReadyH.cons (by simp; rfl) (fun Kc hKc => ?_) AllReadyH.nil
          go_simp
          refine (MY.out wn25).mono ?_
          rintro e wn26 ⟨rfl, bn⟩
          have Dn26 : Hid (Below w1.heap.size w1 wn26) := below_then Dn25.out bn
          have sz26 := bn.size
          have G7n26 : Hid (SAt 29 wn26 wn20.heap.size sup0) := LAt.later G7n25.out bn
          have G8n26 : Hid (SAt 29 wn26 wn1.heap.size sup0) := LAt.later G8n25.out bn
          clear bn
          refine hKc.out _ _ Dn26.out (fun hHeld => ?_)
          clear hKc Kc
          refine wpAnyH_ready (rs := [6]) (by kernel_rfl) (by simp) ?_
          refine AllReadyH.cons (by simp; rfl) (fun Kc hKc => ?_) AllReadyH.nil
          rw [if_pos (by rfl)]
          refine wp_store_is 29 rfl rfl rfl (LAt.store (ds := scells x) G7n26.out size29 rfl (scells_all x)) ?_
          simp only [Act.put]
          have Dn27 : Hid (Below w1.heap.size w1 (wn26.setRow wn20.heap.size (scells x).toArray)) := below_setRow Dn26.out (by omega) _
          have G7n27 : Hid (SAt 29 (wn26.setRow wn20.heap.size (scells x).toArray) wn20.heap.size x) := LAt.stored G7n26.out _
          have G8n27 : Hid (SAt 29 (wn26.setRow wn20.heap.size (scells x).toArray) wn1.heap.size sup0) := LAt.other G8n26.out _ (by omega)
          refine hKc.out _ _ Dn27.out (fun hHeld => ?_)
          clear hKc Kc
          generalize wn26.setRow wn20.heap.size (scells x).toArray = wn27 at *
          refine wpAnyH_ready (rs := [7]) (by kernel_rfl) (by simp) ?_
          refine AllReadyH.cons (by simp; rfl) (fun Kc hKc => ?_) AllReadyH.nil
          rw [if_pos (by rfl)]
          refine wp_store_is 29 rfl rfl rfl (LAt.store (ds := scells y) G8n27.out size29 rfl (scells_all y)) ?_
          simp only [Act.put]
          have Dn28 : Hid (Below w1.heap.size w1 (wn27.setRow wn1.heap.size (scells y).toArray)) := below_setRow Dn27.out (by omega) _
          have G8n28 : Hid (SAt 29 (wn27.setRow wn1.heap.size (scells y).toArray) wn1.heap.size y) := LAt.stored G8n27.out _
          have G7n28 : Hid (SAt 29 (wn27.setRow wn1.heap.size (scells y).toArray) wn20.heap.size x) := LAt.other G7n27.out _ (by omega)
          refine hKc.out _ _ Dn28.out (fun hHeld => ?_)
          clear hKc Kc
          refine wpAnyH_done (by kernel_rfl) (NoPanic.normal ?_) _
          exact ⟨wn20.heap.size, wn1.heap.size, rfl, ⟨G7n28.out, G8n28.out, Dn28.out⟩, rfl⟩
    · rw [if_pos (by rfl)]
      refine wp_alloc_is 29 rfl (alloc29 wd) ?_
      simp only [Act.put, List.setIfInBounds_toArray, List.set_cons_zero, List.set_cons_succ]
      have Dn29 : Hid (Below w1.heap.size w1 (wd.alloc (.cells (scells sup0).toArray 29))) := below_then D1.out (below_alloc wd _)
      have sz29 : wd.heap.size < (wd.alloc (.cells (scells sup0).toArray 29)).heap.size := by simp
      have bs29 := D1.out.size
      have G7n29 : Hid (SAt 29 (wd.alloc (.cells (scells sup0).toArray 29)) wd.heap.size sup0) := LAt.new 29 wd _
      refine hKc.out _ _ Dn29.out (fun hHeld => ?_)
      clear hKc Kc
      generalize wd.alloc (.cells (scells sup0).toArray 29) = wn29 at *
      refine wpAnyH_ready (rs := [1, 5]) (by kernel_rfl) (by simp) ?_
      refine AllReadyH.cons (by simp; rfl) (fun Kc hKc => ?_) (AllReadyH.cons (by simp; rfl) (fun Kc hKc => ?_) AllReadyH.nil)
      · go_simp
        refine (MX.out wn29).mono ?_
        rintro e wn30 ⟨rfl, bn⟩
        have Dn30 : Hid (Below w1.heap.size w1 wn30) := below_then Dn29.out bn
        have sz30 := bn.size
        have G7n30 : Hid (SAt 29 wn30 wd.heap.size sup0) := LAt.later G7n29.out bn
        clear bn
        refine hKc.out _ _ Dn30.out (fun hHeld => ?_)
        clear hKc Kc
        refine wpAnyH_ready (rs := [3, 5]) (by kernel_rfl) (by simp) ?_
        refine AllReadyH.cons (by simp; rfl) (fun Kc hKc => ?_) (AllReadyH.cons (by simp; rfl) (fun Kc hKc => ?_) AllReadyH.nil)
        · go_simp
          refine (MY.out wn30).mono ?_
          rintro e wn31 ⟨rfl, bn⟩
          have Dn31 : Hid (Below w1.heap.size w1 wn31) := below_then Dn30.out bn
          have sz31 := bn.size
          have G7n31 : Hid (SAt 29 wn31 wd.heap.size sup0) := LAt.later G7n30.out bn
          clear bn
          refine hKc.out _ _ Dn31.out (fun hHeld => ?_)
          clear hKc Kc
          refine wpAnyH_ready (rs := [5]) (by kernel_rfl) (by simp) ?_
          refine AllReadyH.cons (by simp; rfl) (fun Kc hKc => ?_) AllReadyH.nil
          rw [if_pos (by rfl)]
          refine wp_alloc_is 29 rfl (alloc29 wn31) ?_
          simp only [Act.put, List.setIfInBounds_toArray, List.set_cons_zero, List.set_cons_succ]
          have Dn32 : Hid (Below w1.heap.size w1 (wn31.alloc (.cells (scells sup0).toArray 29))) := below_then Dn31.out (below_alloc wn31 _)
          have sz32 : wn31.heap.size < (wn31.alloc (.cells (scells sup0).toArray 29)).heap.size := by simp
          have bs32 := Dn31.out.size
          have G8n32 : Hid (SAt 29 (wn31.alloc (.cells (scells sup0).toArray 29)) wn31.heap.size sup0) := LAt.new 29 wn31 _
          have G7n32 : Hid (SAt 29 (wn31.alloc (.cells (scells sup0).toArray 29)) wd.heap.size sup0) := LAt.later G7n31.out (below_alloc wn31 _)
          refine hKc.out _ _ Dn32.out (fun hHeld => ?_)
          clear hKc Kc
          generalize wn31.alloc (.cells (scells sup0).toArray 29) = wn32 at *
          refine wpAnyH_ready (rs := [6]) (by kernel_rfl) (by simp) ?_
          refine AllReadyH.cons (by simp; rfl) (fun Kc hKc => ?_) AllReadyH.nil
          rw [if_pos (by rfl)]
          refine wp_store_is 29 rfl rfl rfl (LAt.store (ds := scells x) G7n32.out size29 rfl (scells_all x)) ?_
          simp only [Act.put]
          have Dn33 : Hid (Below w1.heap.size w1 (wn32.setRow wd.heap.size (scells x).toArray)) := below_setRow Dn32.out (by omega) _
          have G7n33 : Hid (SAt 29 (wn32.setRow wd.heap.size (scells x).toArray) wd.heap.size x) := LAt.stored G7n32.out _
          have G8n33 : Hid (SAt 29 (wn32.setRow wd.heap.size (scells x).toArray) wn31.heap.size sup0) := LAt.other G8n32.out _ (by omega)
          refine hKc.out _ _ Dn33.out (fun hHeld => ?_)
          clear hKc Kc
          generalize wn32.setRow wd.heap.size (scells x).toArray = wn33 at *
          refine wpAnyH_ready (rs := [7]) (by kernel_rfl) (by simp) ?_
          refine AllReadyH.cons (by simp; rfl) (fun Kc hKc => ?_) AllReadyH.nil
          rw [if_pos (by rfl)]
          refine wp_store_is 29 rfl rfl rfl (LAt.store (ds := scells y) G8n33.out size29 rfl (scells_all y)) ?_
          simp only [Act.put]
          have Dn34 : Hid (Below w1.heap.size w1 (wn33.setRow wn31.heap.size (scells y).toArray)) := below_setRow Dn33.out (by omega) _
          have G8n34 : Hid (SAt 29 (wn33.setRow wn31.heap.size (scells y).toArray) wn31.heap.size y) := LAt.stored G8n33.out _
          have G7n34 : Hid (SAt 29 (wn33.setRow wn31.heap.size (scells y).toArray) wd.heap.size x) := LAt.other G7n33.out _ (by omega)
          refine hKc.out _ _ Dn34.out (fun hHeld => ?_)
          clear hKc Kc
          refine wpAnyH_done (by kernel_rfl) (NoPanic.normal ?_) _
          exact ⟨wd.heap.size, wn31.heap.size, rfl, ⟨G7n34.out, G8n34.out, Dn34.out⟩, rfl⟩
        · rw [if_pos (by rfl)]
          refine wp_alloc_is 29 rfl (alloc29 wn30) ?_
          simp only [Act.put, List.setIfInBounds_toArray, List.set_cons_zero, List.set_cons_succ]
          have Dn35 : Hid (Below w1.heap.size w1 (wn30.alloc (.cells (scells sup0).toArray 29))) := below_then Dn30.out (below_alloc wn30 _)
          have sz35 : wn30.heap.size < (wn30.alloc (.cells (scells sup0).toArray 29)).heap.size := by simp
          have bs35 := Dn30.out.size
          have G8n35 : Hid (SAt 29 (wn30.alloc (.cells (scells sup0).toArray 29)) wn30.heap.size sup0) := LAt.new 29 wn30 _
          have G7n35 : Hid (SAt 29 (wn30.alloc (.cells (scells sup0).toArray 29)) wd.heap.size sup0) := LAt.later G7n30.out (below_alloc wn30 _)
          refine hKc.out _ _ Dn35.out (fun hHeld => ?_)
          clear hKc Kc
          generalize wn30.alloc (.cells (scells sup0).toArray 29) = wn35 at *
          refine wpAnyH_ready (rs := [3]) (by kernel_rfl) (by simp) ?_
          refine AllReadyH.cons (by simp; rfl) (fun Kc hKc => ?_) AllReadyH.nil
          go_simp
          refine (MY.out wn35).mono ?_
          rintro e wn36 ⟨rfl, bn⟩
          have Dn36 : Hid (Below w1.heap.size w1 wn36) := below_then Dn35.out bn
          have sz36 := bn.size
          have G7n36 : Hid (SAt 29 wn36 wd.heap.size sup0) := LAt.later G7n35.out bn
          have G8n36 : Hid (SAt 29 wn36 wn30.heap.size sup0) := LAt.later G8n35.out bn
          clear bn
          refine hKc.out _ _ Dn36.out (fun hHeld => ?_)
          clear hKc Kc
          refine wpAnyH_ready (rs := [6]) (by kernel_rfl) (by simp) ?_
          refine AllReadyH.cons (by simp; rfl) (fun Kc hKc => ?_) AllReadyH.nil
          rw [if_pos (by rfl)]
          refine wp_store_is 29 rfl rfl rfl (LAt.store (ds := scells x) G7n36.out size29 rfl (scells_all x)) ?_
          simp only [Act.put]
          have Dn37 : Hid (Below w1.heap.size w1 (wn36.setRow wd.heap.size (scells x).toArray)) := below_setRow Dn36.out (by omega) _
          have G7n37 : Hid (SAt 29 (wn36.setRow wd.heap.size (scells x).toArray) wd.heap.size x) := LAt.stored G7n36.out _
          have G8n37 : Hid (SAt 29 (wn36.setRow wd.heap.size (scells x).toArray) wn30.heap.size sup0) := LAt.other G8n36.out _ (by omega)
          refine hKc.out _ _ Dn37.out (fun hHeld => ?_)
          clear hKc Kc
          generalize wn36.setRow wd.heap.size (scells x).toArray = wn37 at *
          refine wpAnyH_ready (rs := [7]) (by kernel_rfl) (by simp) ?_
          refine AllReadyH.cons (by simp; rfl) (fun Kc hKc => ?_) AllReadyH.nil
          rw [if_pos (by rfl)]
          refine wp_store_is 29 rfl rfl rfl (LAt.store (ds := scells y) G8n37.out size29 rfl (scells_all y)) ?_
          simp only [Act.put]
          have Dn38 : Hid (Below w1.heap.size w1 (wn37.setRow wn30.heap.size (scells y).toArray)) := below_setRow Dn37.out (by omega) _
          have G8n38 : Hid (SAt 29 (wn37.setRow wn30.heap.size (scells y).toArray) wn30.heap.size y) := LAt.stored G8n37.out _
          have G7n38 : Hid (SAt 29 (wn37.setRow wn30.heap.size (scells y).toArray) wd.heap.size x) := LAt.other G7n37.out _ (by omega)
          refine hKc.out _ _ Dn38.out (fun hHeld => ?_)
          clear hKc Kc
          refine wpAnyH_done (by kernel_rfl) (NoPanic.normal ?_) _
          exact ⟨wd.heap.size, wn30.heap.size, rfl, ⟨G7n38.out, G8n38.out, Dn38.out⟩, rfl⟩
      · rw [if_pos (by rfl)]
        refine wp_alloc_is 29 rfl (alloc29 wn29) ?_
        simp only [Act.put, List.setIfInBounds_toArray, List.set_cons_zero, List.set_cons_succ]
        have Dn39 : Hid (Below w1.heap.size w1 (wn29.alloc (.cells (scells sup0).toArray 29))) := below_then Dn29.out (below_alloc wn29 _)
        have sz39 : wn29.heap.size < (wn29.alloc (.cells (scells sup0).toArray 29)).heap.size := by simp
        have bs39 := Dn29.out.size
        have G8n39 : Hid (SAt 29 (wn29.alloc (.cells (scells sup0).toArray 29)) wn29.heap.size sup0) := LAt.new 29 wn29 _
        have G7n39 : Hid (SAt 29 (wn29.alloc (.cells (scells sup0).toArray 29)) wd.heap.size sup0) := LAt.later G7n29.out (below_alloc wn29 _)
        refine hKc.out _ _ Dn39.out (fun hHeld => ?_)
        clear hKc Kc
        generalize wn29.alloc (.cells (scells sup0).toArray 29) = wn39 at *
        refine wpAnyH_ready (rs := [1]) (by kernel_rfl) (by simp) ?_
        refine AllReadyH.cons (by simp; rfl) (fun Kc hKc => ?_) AllReadyH.nil
        go_simp
        refine (MX.out wn39).mono ?_
        rintro e wn40 ⟨rfl, bn⟩
        have Dn40 : Hid (Below w1.heap.size w1 wn40) := below_then Dn39.out bn
        have sz40 := bn.size
        have G7n40 : Hid (SAt 29 wn40 wd.heap.size sup0) := LAt.later G7n39.out bn
        have G8n40 : Hid (SAt 29 wn40 wn29.heap.size sup0) := LAt.later G8n39.out bn
        clear bn
        refine hKc.out _ _ Dn40.out (fun hHeld => ?_)
        clear hKc Kc
        refine wpAnyH_ready (rs := [3]) (by kernel_rfl) (by simp) ?_
        refine AllReadyH.cons (by simp; rfl) (fun Kc hKc => ?_) AllReadyH.nil
        go_simp
        refine (MY.out wn40).mono ?_
        rintro e wn41 ⟨rfl, bn⟩
        have Dn41 : Hid (Below w1.heap.size w1 wn41) := below_then Dn40.out bn
        have sz41 := bn.size
        have G7n41 : Hid (SAt 29 wn41 wd.heap.size sup0) := LAt.later G7n40.out bn
        have G8n41 : Hid (SAt 29 wn41 wn29.heap.size sup0) := LAt.later G8n40.out bn
        clear bn
        refine hKc.out _ _ Dn41.out (fun hHeld => ?_)
        clear hKc Kc
        refine wpAnyH_ready (rs := [6]) (by kernel_rfl) (by simp) ?_
        refine AllReadyH.cons (by simp; rfl) (fun Kc hKc => ?_) AllReadyH.nil
        rw [if_pos (by rfl)]
        refine wp_store_is 29 rfl rfl rfl (LAt.store (ds := scells x) G7n41.out size29 rfl (scells_all x)) ?_
        simp only [Act.put]
        have Dn42 : Hid (Below w1.heap.size w1 (wn41.setRow wd.heap.size (scells x).toArray)) := below_setRow Dn41.out (by omega) _
        have G7n42 : Hid (SAt 29 (wn41.setRow wd.heap.size (scells x).toArray) wd.heap.size x) := LAt.stored G7n41.out _
        have G8n42 : Hid (SAt 29 (wn41.setRow wd.heap.size (scells x).toArray) wn29.heap.size sup0) := LAt.other G8n41.out _ (by omega)
        refine hKc.out _ _ Dn42.out (fun hHeld => ?_)
        clear hKc Kc
        generalize wn41.setRow wd.heap.size (scells x).toArray = wn42 at *
        refine wpAnyH_ready (rs := [7]) (by kernel_rfl) (by simp) ?_
        refine AllReadyH.cons (by simp; rfl) (fun Kc hKc => ?_) AllReadyH.nil
        rw [if_pos (by rfl)]
        refine wp_store_is 29 rfl rfl rfl (LAt.store (ds := scells y) G8n42.out size29 rfl (scells_all y)) ?_
        simp only [Act.put]
        have Dn43 : Hid (Below w1.heap.size w1 (wn42.setRow wn29.heap.size (scells y).toArray)) := below_setRow Dn42.out (by omega) _
        have G8n43 : Hid (SAt 29 (wn42.setRow wn29.heap.size (scells y).toArray) wn29.heap.size y) := LAt.stored G8n42.out _
        have G7n43 : Hid (SAt 29 (wn42.setRow wn29.heap.size (scells y).toArray) wd.heap.size x) := LAt.other G7n42.out _ (by omega)
        refine hKc.out _ _ Dn43.out (fun hHeld => ?_)
        clear hKc Kc
        refine wpAnyH_done (by kernel_rfl) (NoPanic.normal ?_) _
        exact ⟨wd.heap.size, wn29.heap.size, rfl, ⟨G7n43.out, G8n43.out, Dn43.out⟩, rfl⟩
    · rw [if_pos (by rfl)]
      refine wp_alloc_is 29 rfl (alloc29 wd) ?_
      simp only [Act.put, List.setIfInBounds_toArray, List.set_cons_zero, List.set_cons_succ]
      have Dn44 : Hid (Below w1.heap.size w1 (wd.alloc (.cells (scells sup0).toArray 29))) := below_then D1.out (below_alloc wd _)
      have sz44 : wd.heap.size < (wd.alloc (.cells (scells sup0).toArray 29)).heap.size := by simp
      have bs44 := D1.out.size
      have G8n44 : Hid (SAt 29 (wd.alloc (.cells (scells sup0).toArray 29)) wd.heap.size sup0) := LAt.new 29 wd _
      refine hKc.out _ _ Dn44.out (fun hHeld => ?_)
      clear hKc Kc
      generalize wd.alloc (.cells (scells sup0).toArray 29) = wn44 at *
      refine wpAnyH_ready (rs := [1, 4]) (by kernel_rfl) (by simp) ?_
      refine AllReadyH.cons (by simp; rfl) (fun Kc hKc => ?_) (AllReadyH.cons (by simp; rfl) (fun Kc hKc => ?_) AllReadyH.nil)
      · go_simp
        refine (MX.out wn44).mono ?_
        rintro e wn45 ⟨rfl, bn⟩
        have Dn45 : Hid (Below w1.heap.size w1 wn45) := below_then Dn44.out bn
        have sz45 := bn.size
        have G8n45 : Hid (SAt 29 wn45 wd.heap.size sup0) := LAt.later G8n44.out bn
        clear bn
        refine hKc.out _ _ Dn45.out (fun hHeld => ?_)
        clear hKc Kc
        refine wpAnyH_ready (rs := [3, 4]) (by kernel_rfl) (by simp) ?_
        refine AllReadyH.cons (by simp; rfl) (fun Kc hKc => ?_) (AllReadyH.cons (by simp; rfl) (fun Kc hKc => ?_) AllReadyH.nil)
        · go_simp
          refine (MY.out wn45).mono ?_
          rintro e wn46 ⟨rfl, bn⟩
          have Dn46 : Hid (Below w1.heap.size w1 wn46) := below_then Dn45.out bn
          have sz46 := bn.size
          have G8n46 : Hid (SAt 29 wn46 wd.heap.size sup0) := LAt.later G8n45.out bn
          clear bn
          refine hKc.out _ _ Dn46.out (fun hHeld => ?_)
          clear hKc Kc
          refine wpAnyH_ready (rs := [4]) (by kernel_rfl) (by simp) ?_
          refine AllReadyH.cons (by simp; rfl) (fun Kc hKc => ?_) AllReadyH.nil
          rw [if_pos (by rfl)]
          refine wp_alloc_is 29 rfl (alloc29 wn46) ?_
          simp only [Act.put, List.setIfInBounds_toArray, List.set_cons_zero, List.set_cons_succ]
          have Dn47 : Hid (Below w1.heap.size w1 (wn46.alloc (.cells (scells sup0).toArray 29))) := below_then Dn46.out (below_alloc wn46 _)
          have sz47 : wn46.heap.size < (wn46.alloc (.cells (scells sup0).toArray 29)).heap.size := by simp
          have bs47 := Dn46.out.size
          have G7n47 : Hid (SAt 29 (wn46.alloc (.cells (scells sup0).toArray 29)) wn46.heap.size sup0) := LAt.new 29 wn46 _
          have G8n47 : Hid (SAt 29 (wn46.alloc (.cells (scells sup0).toArray 29)) wd.heap.size sup0) := LAt.later G8n46.out (below_alloc wn46 _)
          refine hKc.out _ _ Dn47.out (fun hHeld => ?_)
          clear hKc Kc
          generalize wn46.alloc (.cells (scells sup0).toArray 29) = wn47 at *
          refine wpAnyH_ready (rs := [6]) (by kernel_rfl) (by simp) ?_
          refine AllReadyH.cons (by simp; rfl) (fun Kc hKc => ?_) AllReadyH.nil
          rw [if_pos (by rfl)]
          refine wp_store_is 29 rfl rfl rfl (LAt.store (ds := scells x) G7n47.out size29 rfl (scells_all x)) ?_
          simp only [Act.put]
          have Dn48 : Hid (Below w1.heap.size w1 (wn47.setRow wn46.heap.size (scells x).toArray)) := below_setRow Dn47.out (by omega) _
          have G7n48 : Hid (SAt 29 (wn47.setRow wn46.heap.size (scells x).toArray) wn46.heap.size x) := LAt.stored G7n47.out _
          have G8n48 : Hid (SAt 29 (wn47.setRow wn46.heap.size (scells x).toArray) wd.heap.size sup0) := LAt.other G8n47.out _ (by omega)
          refine hKc.out _ _ Dn48.out (fun hHeld => ?_)
          clear hKc Kc
          generalize wn47.setRow wn46.heap.size (scells x).toArray = wn48 at *
          refine wpAnyH_ready (rs := [7]) (by kernel_rfl) (by simp) ?_
          refine AllReadyH.cons (by simp; rfl) (fun Kc hKc => ?_) AllReadyH.nil
          rw [if_pos (by rfl)]
          refine wp_store_is 29 rfl rfl rfl (LAt.store (ds := scells y) G8n48.out size29 rfl (scells_all y)) ?_
          simp only [Act.put]
          have Dn49 : Hid (Below w1.heap.size w1 (wn48.setRow wd.heap.size (scells y).toArray)) := below_setRow Dn48.out (by omega) _
          have G8n49 : Hid (SAt 29 (wn48.setRow wd.heap.size (scells y).toArray) wd.heap.size y) := LAt.stored G8n48.out _
          have G7n49 : Hid (SAt 29 (wn48.setRow wd.heap.size (scells y).toArray) wn46.heap.size x) := LAt.other G7n48.out _ (by omega)
          refine hKc.out _ _ Dn49.out (fun hHeld => ?_)
          clear hKc Kc
          refine wpAnyH_done (by kernel_rfl) (NoPanic.normal ?_) _
          exact ⟨wn46.heap.size, wd.heap.size, rfl, ⟨G7n49.out, G8n49.out, Dn49.out⟩, rfl⟩
        · rw [if_pos (by rfl)]
          refine wp_alloc_is 29 rfl (alloc29 wn45) ?_
          simp only [Act.put, List.setIfInBounds_toArray, List.set_cons_zero, List.set_cons_succ]
          have Dn50 : Hid (Below w1.heap.size w1 (wn45.alloc (.cells (scells sup0).toArray 29))) := below_then Dn45.out (below_alloc wn45 _)
          have sz50 : wn45.heap.size < (wn45.alloc (.cells (scells sup0).toArray 29)).heap.size := by simp
          have bs50 := Dn45.out.size
          have G7n50 : Hid (SAt 29 (wn45.alloc (.cells (scells sup0).toArray 29)) wn45.heap.size sup0) := LAt.new 29 wn45 _
          have G8n50 : Hid (SAt 29 (wn45.alloc (.cells (scells sup0).toArray 29)) wd.heap.size sup0) := LAt.later G8n45.out (below_alloc wn45 _)
          refine hKc.out _ _ Dn50.out (fun hHeld => ?_)
          clear hKc Kc
          generalize wn45.alloc (.cells (scells sup0).toArray 29) = wn50 at *
          refine wpAnyH_ready (rs := [3]) (by kernel_rfl) (by simp) ?_
          refine AllReadyH.cons (by simp; rfl) (fun Kc hKc => ?_) AllReadyH.nil
          go_simp
          refine (MY.out wn50).mono ?_
          rintro e wn51 ⟨rfl, bn⟩
          have Dn51 : Hid (Below w1.heap.size w1 wn51) := below_then Dn50.out bn
          have sz51 := bn.size
          have G7n51 : Hid (SAt 29 wn51 wn45.heap.size sup0) := LAt.later G7n50.out bn
          have G8n51 : Hid (SAt 29 wn51 wd.heap.size sup0) := LAt.later G8n50.out bn
          clear bn
          refine hKc.out _ _ Dn51.out (fun hHeld => ?_)
          clear hKc Kc
          refine wpAnyH_ready (rs := [6]) (by kernel_rfl) (by simp) ?_
          refine AllReadyH.cons (by simp; rfl) (fun Kc hKc => ?_) AllReadyH.nil
          rw [if_pos (by rfl)]
          refine wp_store_is 29 rfl rfl rfl (LAt.store (ds := scells x) G7n51.out size29 rfl (scells_all x)) ?_
          simp only [Act.put]
          have Dn52 : Hid (Below w1.heap.size w1 (wn51.setRow wn45.heap.size (scells x).toArray)) := below_setRow Dn51.out (by omega) _
          have G7n52 : Hid (SAt 29 (wn51.setRow wn45.heap.size (scells x).toArray) wn45.heap.size x) := LAt.stored G7n51.out _
          have G8n52 : Hid (SAt 29 (wn51.setRow wn45.heap.size (scells x).toArray) wd.heap.size sup0) := LAt.other G8n51.out _ (by omega)
          refine hKc.out _ _ Dn52.out (fun hHeld => ?_)
          clear hKc Kc
          generalize wn51.setRow wn45.heap.size (scells x).toArray = wn52 at *
          refine wpAnyH_ready (rs := [7]) (by kernel_rfl) (by simp) ?_
          refine AllReadyH.cons (by simp; rfl) (fun Kc hKc => ?_) AllReadyH.nil
          rw [if_pos (by rfl)]
          refine wp_store_is 29 rfl rfl rfl (LAt.store (ds := scells y) G8n52.out size29 rfl (scells_all y)) ?_
          simp only [Act.put]
          have Dn53 : Hid (Below w1.heap.size w1 (wn52.setRow wd.heap.size (scells y).toArray)) := below_setRow Dn52.out (by omega) _
          have G8n53 : Hid (SAt 29 (wn52.setRow wd.heap.size (scells y).toArray) wd.heap.size y) := LAt.stored G8n52.out _
          have G7n53 : Hid (SAt 29 (wn52.setRow wd.heap.size (scells y).toArray) wn45.heap.size x) := LAt.other G7n52.out _ (by omega)
          refine hKc.out _ _ Dn53.out (fun hHeld => ?_)
          clear hKc Kc
          refine wpAnyH_done (by kernel_rfl) (NoPanic.normal ?_) _
          exact ⟨wn45.heap.size, wd.heap.size, rfl, ⟨G7n53.out, G8n53.out, Dn53.out⟩, rfl⟩
      · rw [if_pos (by rfl)]
        refine wp_alloc_is 29 rfl (alloc29 wn44) ?_
        simp only [Act.put, List.setIfInBounds_toArray, List.set_cons_zero, List.set_cons_succ]
        have Dn54 : Hid (Below w1.heap.size w1 (wn44.alloc (.cells (scells sup0).toArray 29))) := below_then Dn44.out (below_alloc wn44 _)
        have sz54 : wn44.heap.size < (wn44.alloc (.cells (scells sup0).toArray 29)).heap.size := by simp
        have bs54 := Dn44.out.size
        have G7n54 : Hid (SAt 29 (wn44.alloc (.cells (scells sup0).toArray 29)) wn44.heap.size sup0) := LAt.new 29 wn44 _
        have G8n54 : Hid (SAt 29 (wn44.alloc (.cells (scells sup0).toArray 29)) wd.heap.size sup0) := LAt.later G8n44.out (below_alloc wn44 _)
        refine hKc.out _ _ Dn54.out (fun hHeld => ?_)
        clear hKc Kc
        generalize wn44.alloc (.cells (scells sup0).toArray 29) = wn54 at *
        refine wpAnyH_ready (rs := [1]) (by kernel_rfl) (by simp) ?_
        refine AllReadyH.cons (by simp; rfl) (fun Kc hKc => ?_) AllReadyH.nil
        go_simp
        refine (MX.out wn54).mono ?_
        rintro e wn55 ⟨rfl, bn⟩
        have Dn55 : Hid (Below w1.heap.size w1 wn55) := below_then Dn54.out bn
        have sz55 := bn.size
        have G7n55 : Hid (SAt 29 wn55 wn44.heap.size sup0) := LAt.later G7n54.out bn
        have G8n55 : Hid (SAt 29 wn55 wd.heap.size sup0) := LAt.later G8n54.out bn
        clear bn
        refine hKc.out _ _ Dn55.out (fun hHeld => ?_)
        clear hKc Kc
        refine wpAnyH_ready (rs := [3]) (by kernel_rfl) (by simp) ?_
        refine AllReadyH.cons (by simp; rfl) (fun Kc hKc => ?_) AllReadyH.nil
        go_simp
        refine (MY.out wn55).mono ?_
        rintro e wn56 ⟨rfl, bn⟩
        have Dn56 : Hid (Below w1.heap.size w1 wn56) := below_then Dn55.out bn
        have sz56 := bn.size
        have G7n56 : Hid (SAt 29 wn56 wn44.heap.size sup0) := LAt.later G7n55.out bn
        have G8n56 : Hid (SAt 29 wn56 wd.heap.size sup0) := LAt.later G8n55.out bn
        clear bn
        refine hKc.out _ _ Dn56.out (fun hHeld => ?_)
        clear hKc Kc
        refine wpAnyH_ready (rs := [6]) (by kernel_rfl) (by simp) ?_
        refine AllReadyH.cons (by simp; rfl) (fun Kc hKc => ?_) AllReadyH.nil
        rw [if_pos (by rfl)]
        refine wp_store_is 29 rfl rfl rfl (LAt.store (ds := scells x) G7n56.out size29 rfl (scells_all x)) ?_
        simp only [Act.put]
        have Dn57 : Hid (Below w1.heap.size w1 (wn56.setRow wn44.heap.size (scells x).toArray)) := below_setRow Dn56.out (by omega) _
        have G7n57 : Hid (SAt 29 (wn56.setRow wn44.heap.size (scells x).toArray) wn44.heap.size x) := LAt.stored G7n56.out _
        have G8n57 : Hid (SAt 29 (wn56.setRow wn44.heap.size (scells x).toArray) wd.heap.size sup0) := LAt.other G8n56.out _ (by omega)
        refine hKc.out _ _ Dn57.out (fun hHeld => ?_)
        clear hKc Kc
        generalize wn56.setRow wn44.heap.size (scells x).toArray = wn57 at *
        refine wpAnyH_ready (rs := [7]) (by kernel_rfl) (by simp) ?_
        refine AllReadyH.cons (by simp; rfl) (fun Kc hKc => ?_) AllReadyH.nil
        rw [if_pos (by rfl)]
        refine wp_store_is 29 rfl rfl rfl (LAt.store (ds := scells y) G8n57.out size29 rfl (scells_all y)) ?_
        simp only [Act.put]
        have Dn58 : Hid (Below w1.heap.size w1 (wn57.setRow wd.heap.size (scells y).toArray)) := below_setRow Dn57.out (by omega) _
        have G8n58 : Hid (SAt 29 (wn57.setRow wd.heap.size (scells y).toArray) wd.heap.size y) := LAt.stored G8n57.out _
        have G7n58 : Hid (SAt 29 (wn57.setRow wd.heap.size (scells y).toArray) wn44.heap.size x) := LAt.other G7n57.out _ (by omega)
        refine hKc.out _ _ Dn58.out (fun hHeld => ?_)
        clear hKc Kc
        refine wpAnyH_done (by kernel_rfl) (NoPanic.normal ?_) _
        exact ⟨wn44.heap.size, wd.heap.size, rfl, ⟨G7n58.out, G8n58.out, Dn58.out⟩, rfl⟩
  case rest =>
    rintro e a w2 ⟨g7, g8, rfl, HF, rfl⟩
    have X2 : Hid (SAt 29 w2 g7 x) := HF.out.1
    have Y2 : Hid (SAt 29 w2 g8 y) := HF.out.2.1
    have H2 : Hid (SB w2 p n c xs) := H1.out.later HF.out.2.2
    have B2 : Hid (Below w.heap.size w w2) := below_then B1.out HF.out.2.2
    have L2 : Hid (_) := SAt.load29 X2.out
    clear HF R1 S1 H1 B1 MX MY
    go_wp2_with ((with_reducible refine at_ops ?_); (first | (refine wpList_load_is (by rfl) 29 rfl rfl L2.out ?_)); simp only [Act.put, List.setIfInBounds_toArray, List.set_cons_zero, List.set_cons_succ])
    refine (encode_good x X0.out.1 X0.out.2 w2 (HT.out.later B2.out)).mono ?_
    rintro e w3 ⟨gp, rfl, m3⟩
    have X3 : Hid (SAt 29 w3 g7 x) := LAt.later X2.out m3.below
    have Y3 : Hid (SAt 29 w3 g8 y) := LAt.later Y2.out m3.below
    have P3 : Hid (BIn w3 (some ⟨gp, 0, none⟩) 64 (encS x)) := m3.read
    have H3 : Hid (SB w3 p n c xs) := H2.out.later m3.below
    have B3 : Hid (Below w.heap.size w w3) := below_then B2.out m3.below
    have L3 : Hid (_) := SAt.load29 Y3.out
    clear m3 X2 Y2 H2 B2 L2
    go_wp2_with ((with_reducible refine at_ops ?_); (first | (refine wpList_load_is (by rfl) 29 rfl rfl L3.out ?_)); simp only [Act.put, List.setIfInBounds_toArray, List.set_cons_zero, List.set_cons_succ])
    refine (encode_good y Y0.out.1 Y0.out.2 w3 (HT.out.later B3.out)).mono ?_
    rintro e w4 ⟨gq, rfl, m4⟩
    have X4 : Hid (SAt 29 w4 g7 x) := LAt.later X3.out m4.below
    have Y4 : Hid (SAt 29 w4 g8 y) := LAt.later Y3.out m4.below
    have P4 : Hid (BIn w4 (some ⟨gp, 0, none⟩) 64 (encS x)) := P3.out.later m4.below
    have Q4 : Hid (BIn w4 (some ⟨gq, 0, none⟩) 64 (encS y)) := m4.read
    have H4 : Hid (SB w4 p n c xs) := H3.out.later m4.below
    have B4 : Hid (Below w.heap.size w w4) := below_then B3.out m4.below
    clear m4 X3 Y3 P3 H3 B3 L3
    have ES : ((strOfNums (encS x)).toList == (strOfNums (encS y)).toList) = supB x y := eq_strings x y X0.out.1 Y0.out.1 X0.out.2 Y0.out.2
    have QE : Hid (∀ w, (binOp .eql 29 (.agg (scells x).toArray) (.agg (scells y).toArray)).run Tryd.prog w = .ok (.bool (supB x y)) w) := fun w => eql29 w x y
    generalize supB x y = bb at *
    go_wp2_with fail
    refine wp_region_noPanic ?_
    refine wp_region_held_drew (S := fun w' => Below w4.heap.size w4 w') (by kernel_rfl) (below_drawn 1) (fun hHeld => ?_)
    have D4 : Hid (Below w4.heap.size w4 w4.drew) := hHeld
    generalize w4.drew = wd at *
    refine wpAnyH_take (i := 0) (v := ?va59) (by simp; rfl) (by kernel_rfl) (by kernel_rfl) (by kernel_rfl) (fun _ _ _ h => h) (Or.inl ⟨by rfl, ?ya59⟩) hHeld ?ra59
    case ya59 => intro w hSw; clear hSw; go_simp; with_reducible rfl
    simp only [Act.put, List.setIfInBounds_toArray, List.set_cons_zero, List.set_cons_succ]
    refine wpAnyH_ready (rs := [1]) (by kernel_rfl) (by simp) ?_
    refine AllReadyH.cons (by simp; rfl) (fun Kc hKc => ?_) AllReadyH.nil
    go_simp
    refine (num_any 0 (by decide) wd).mono ?_
    rintro e wz ⟨rfl, rfl⟩
    refine hKc.out _ _ D4.out (fun hHeld => ?_)
    clear hKc Kc
    refine wpAnyH_take (i := 2) (v := ?va60) (by simp; rfl) (by kernel_rfl) (by kernel_rfl) (by kernel_rfl) (fun _ _ _ h => h) (Or.inl ⟨by rfl, ?ya60⟩) hHeld ?ra60
    case ya60 => intro w hSw; clear hSw; go_simp; with_reducible rfl
    simp only [Act.put, List.setIfInBounds_toArray, List.set_cons_zero, List.set_cons_succ]
    refine wpAnyH_take (i := 3) (v := ?va61) (by simp; rfl) (by kernel_rfl) (by kernel_rfl) (by kernel_rfl) (fun _ _ _ h => h) (Or.inl ⟨by rfl, ?ya61⟩) hHeld ?ra61
    case ya61 => intro w hSw; clear hSw; go_simp; with_reducible rfl
    simp only [Act.put, List.setIfInBounds_toArray, List.set_cons_zero, List.set_cons_succ]
    refine wpAnyH_take (i := 4) (v := ?va62) (by simp; rfl) (by kernel_rfl) (by kernel_rfl) (by kernel_rfl) (fun _ _ _ h => h) (Or.inl ⟨by rfl, ?ya62⟩) hHeld ?ra62
    case ya62 => intro w hSw; clear hSw; go_simp; with_reducible rfl
    simp only [Act.put, List.setIfInBounds_toArray, List.set_cons_zero, List.set_cons_succ]
    refine wpAnyH_ready (rs := [5]) (by kernel_rfl) (by simp) ?_
    refine AllReadyH.cons (by simp; rfl) (fun Kc hKc => ?_) AllReadyH.nil
    go_simp
    refine (num_any 0 (by decide) wd).mono ?_
    rintro e wz ⟨rfl, rfl⟩
    refine hKc.out _ _ D4.out (fun hHeld => ?_)
    clear hKc Kc
    refine wpAnyH_take (i := 6) (v := ?va63) (by simp; rfl) (by kernel_rfl) (by kernel_rfl) (by kernel_rfl) (fun _ _ _ h => h) (Or.inl ⟨by rfl, ?ya63⟩) hHeld ?ra63
    case ya63 => intro w hSw; clear hSw; go_simp; with_reducible rfl
    simp only [Act.put, List.setIfInBounds_toArray, List.set_cons_zero, List.set_cons_succ]
    refine wpAnyH_take (i := 7) (v := ?va64) (by simp; rfl) (by kernel_rfl) (by kernel_rfl) (by kernel_rfl) (fun _ _ _ h => h) (Or.inl ⟨by rfl, ?ya64⟩) hHeld ?ra64
    case ya64 => intro w hSw; clear hSw; go_simp; with_reducible rfl
    simp only [Act.put, List.setIfInBounds_toArray, List.set_cons_zero, List.set_cons_succ]
    refine wpAnyH_take (i := 8) (v := ?va65) (by simp; rfl) (by kernel_rfl) (by kernel_rfl) (by kernel_rfl) (fun _ _ _ h => h) (Or.inl ⟨by rfl, ?ya65⟩) hHeld ?ra65
    case ya65 => intro w hSw; clear hSw; go_simp; with_reducible rfl
    simp only [Act.put, List.setIfInBounds_toArray, List.set_cons_zero, List.set_cons_succ]
    refine wpAnyH_take (i := 9) (v := ?va66) (by simp; rfl) (by kernel_rfl) (by kernel_rfl) (by kernel_rfl) (fun _ _ _ h => h) (Or.inl ⟨by rfl, ?ya66⟩) hHeld ?ra66
    case ya66 => intro w hSw; clear hSw; go_simp; with_reducible rfl
    simp only [Act.put, List.setIfInBounds_toArray, List.set_cons_zero, List.set_cons_succ]
    refine wpAnyH_take (i := 10) (v := ?va67) (by simp; rfl) (by kernel_rfl) (by kernel_rfl) (by kernel_rfl) (fun _ _ _ h => h) (Or.inl ⟨by rfl, ?ya67⟩) hHeld ?ra67
    case ya67 => intro w hSw; clear hSw; go_simp; with_reducible rfl
    simp only [Act.put, List.setIfInBounds_toArray, List.set_cons_zero, List.set_cons_succ]
    refine wpAnyH_take (i := 11) (v := ?va68) (by simp; rfl) (by kernel_rfl) (by kernel_rfl) (by kernel_rfl) (fun _ _ _ h => h) (Or.inl ⟨by rfl, ?ya68⟩) hHeld ?ra68
    case ya68 => intro w hSw; clear hSw; go_simp; with_reducible rfl
    simp only [Act.put, List.setIfInBounds_toArray, List.set_cons_zero, List.set_cons_succ]
    refine wpAnyH_take (i := 12) (v := ?va69) (by simp; rfl) (by kernel_rfl) (by kernel_rfl) (by kernel_rfl) (fun _ _ _ h => h) (Or.inl ⟨by rfl, ?ya69⟩) hHeld ?ra69
    case ya69 => intro w hSw; clear hSw; go_simp; with_reducible rfl
    simp only [Act.put, List.setIfInBounds_toArray, List.set_cons_zero, List.set_cons_succ]
    refine wpAnyH_take (i := 13) (v := ?va70) (by simp; rfl) (by kernel_rfl) (by kernel_rfl) (by kernel_rfl) (fun _ _ _ h => h) (Or.inl ⟨by rfl, ?ya70⟩) hHeld ?ra70
    case ya70 => intro w hSw; clear hSw; go_simp; with_reducible rfl
    simp only [Act.put, List.setIfInBounds_toArray, List.set_cons_zero, List.set_cons_succ]
    refine wpAnyH_take (i := 14) (v := ?va71) (by simp; rfl) (by kernel_rfl) (by kernel_rfl) (by kernel_rfl) (fun _ _ _ h => h) (Or.inl ⟨by rfl, ?ya71⟩) hHeld ?ra71
    case ya71 => intro w hSw; clear hSw; go_simp; with_reducible rfl
    simp only [Act.put, List.setIfInBounds_toArray, List.set_cons_zero, List.set_cons_succ]
    refine wpAnyH_take (i := 15) (v := ?va72) (by simp; rfl) (by kernel_rfl) (by kernel_rfl) (by kernel_rfl) (fun _ _ _ h => h) (Or.inl ⟨by rfl, ?ya72⟩) hHeld ?ra72
    case ya72 => intro w hSw; have z1 := (P4.out.later hSw).str 64; clear hSw; go_simp; with_reducible rfl
    simp only [Act.put, List.setIfInBounds_toArray, List.set_cons_zero, List.set_cons_succ]
    refine wpAnyH_take (i := 16) (v := ?va73) (by simp; rfl) (by kernel_rfl) (by kernel_rfl) (by kernel_rfl) (fun _ _ _ h => h) (Or.inl ⟨by rfl, ?ya73⟩) hHeld ?ra73
    case ya73 => intro w hSw; clear hSw; go_simp; with_reducible rfl
    simp only [Act.put, List.setIfInBounds_toArray, List.set_cons_zero, List.set_cons_succ]
    refine wpAnyH_take (i := 17) (v := ?va74) (by simp; rfl) (by kernel_rfl) (by kernel_rfl) (by kernel_rfl) (fun _ _ _ h => h) (Or.inl ⟨by rfl, ?ya74⟩) hHeld ?ra74
    case ya74 => intro w hSw; have z1 := (Q4.out.later hSw).str 64; clear hSw; go_simp; with_reducible rfl
    simp only [Act.put, List.setIfInBounds_toArray, List.set_cons_zero, List.set_cons_succ]
    refine wpAnyH_take (i := 18) (v := ?va75) (by simp; rfl) (by kernel_rfl) (by kernel_rfl) (by kernel_rfl) (fun _ _ _ h => h) (Or.inl ⟨by rfl, ?ya75⟩) hHeld ?ra75
    case ya75 => intro w hSw; clear hSw; go_simp; with_reducible rfl
    simp only [Act.put, List.setIfInBounds_toArray, List.set_cons_zero, List.set_cons_succ]
    refine wpAnyH_take (i := 19) (v := _) (by simp; rfl) (by kernel_rfl) (by kernel_rfl) (by kernel_rfl) (fun _ _ _ h => h) (yieldsIf_load_mid (by rfl) 29 (.tmp 7) rfl g7 0 rfl (scells x) _ (fun _ h => LAt.range (LAt.later X4.out h)) Tryd.underlying29 rfl (by rw [size29, scells_len])) hHeld ?_
    simp only [Act.put, List.setIfInBounds_toArray, List.set_cons_zero, List.set_cons_succ]
    refine wpAnyH_take (i := 20) (v := _) (by simp; rfl) (by kernel_rfl) (by kernel_rfl) (by kernel_rfl) (fun _ _ _ h => h) (yieldsIf_load_mid (by rfl) 29 (.tmp 8) rfl g8 0 rfl (scells y) _ (fun _ h => LAt.range (LAt.later Y4.out h)) Tryd.underlying29 rfl (by rw [size29, scells_len])) hHeld ?_
    simp only [Act.put, List.setIfInBounds_toArray, List.set_cons_zero, List.set_cons_succ]
    refine wpAnyH_take (i := 21) (v := _) (by simp; rfl) (by kernel_rfl) (by kernel_rfl) (by kernel_rfl) (fun _ _ _ h => h) (yields_eql_is (by rfl) 29 rfl rfl rfl eqg29 QE.out) hHeld ?_
    simp only [Act.put, List.setIfInBounds_toArray, List.set_cons_zero, List.set_cons_succ]
    refine wpAnyH_take (i := 22) (v := ?va76) (by simp; rfl) (by kernel_rfl) (by kernel_rfl) (by kernel_rfl) (fun _ _ _ h => h) (Or.inl ⟨by rfl, ?ya76⟩) hHeld ?ra76
    case ya76 => intro w hSw; clear hSw; go_simp; with_reducible rfl
    simp only [Act.put, List.setIfInBounds_toArray, List.set_cons_zero, List.set_cons_succ]
    refine wpAnyH_take (i := 23) (v := ?va77) (by simp; rfl) (by kernel_rfl) (by kernel_rfl) (by kernel_rfl) (fun _ _ _ h => h) (Or.inl ⟨by rfl, ?ya77⟩) hHeld ?ra77
    case ya77 => intro w hSw; clear hSw; go_simp; with_reducible rfl
    simp only [Act.put, List.setIfInBounds_toArray, List.set_cons_zero, List.set_cons_succ]
    refine wpAnyH_done (by kernel_rfl) (NoPanic.normal ?_) _
    clear hHeld ES QE
    have X5 : Hid (SAt 29 wd g7 x) := LAt.later X4.out D4.out
    have P5 : Hid (BIn wd (some ⟨gp, 0, none⟩) 64 (encS x)) := P4.out.later D4.out
    have H5 : Hid (SB wd p n c xs) := H4.out.later D4.out
    have B5 : Hid (Below w.heap.size w wd) := below_then B4.out D4.out
    clear X4 Y4 P4 Q4 H4 B4 D4
    have HN : Hid (∀ ad, some (⟨gp, 0, none⟩ : Addr) = some ad → ∀ j u, (U8 (encS x))[j]? = some u → (wd.alloc (.cells #[] 5)).cell? (ad.add j) = some u) := by
      rintro ad had
      cases had
      exact (P5.out.later (below_alloc wd (.cells #[] 5))).news
    have HL : Hid ((U8 (encS x)).length = 64 * 1) := by show _ = _; rw [List.length_map, encS_len]
    have HM : Hid ((wd.alloc (.cells #[] 5)).ownsRow wd.heap.size 5 1 (.slice (some ⟨wd.heap.size, 0, none⟩) 0 0) 0 []) := World.ownsRow_made wd #[] 0 (Nat.le_refl _) (Nat.zero_le _) rfl
    go_wp2_with (at_builtin; refine wpList_append_ownany _ rfl (.tmp 58) (.tmp 59) 27 rfl wd.heap.size 5 i0 (.int .u8 0) 1 1 Tryd.underlying27 hi hz0 hz1 hz2 rfl (by decide) _ 0 [] rfl HM.out (some ⟨gp, 0, none⟩) 64 64 (U8 (encS x)) rfl (fun e => by cases e) HL.out HN.out (ones_u8 _) (by unfold maxLen; omega) (by omega) (by simp) ?_)
    intro v6 w6 hown6 hgrow6
    obtain ⟨p6, c6, rfl, m6⟩ := made_of_append (n := 64) (encS_bytes x) (by simpa using hown6) hgrow6
    have X6 : Hid (SAt 29 w6 g7 x) := LAt.later X5.out m6.below
    have E6 : Hid (BIn w6 p6 64 (encS x)) := m6.read
    have hc6 := m6.le
    have H6 : Hid (SB w6 p n c xs) := H5.out.later m6.below
    have B6 : Hid (Below w.heap.size w w6) := below_then B5.out m6.below
    clear hown6 hgrow6 m6 HN HL HM X5 P5 H5 B5
    go_wp2_with fail
    refine (decode_any p6 64 c6 _ w6 E6.out hc6 (HT.out.later B6.out)).mono ?_
    rintro e w7 ⟨rfl, b7⟩
    rw [decS_encS x X0.out.1 X0.out.2]
    have A7 : Hid (_) := alloc29 w7
    have S7 : Hid (_) := store_new29 w7 x
    obtain ⟨w8, hw8⟩ : ∃ q, q = w7.alloc (.cells (scells x).toArray 29) := ⟨_, rfl⟩
    have b78 : Below w7.heap.size w7 w8 := by rw [hw8]; exact below_alloc w7 _
    have b68 := below_then b7 b78
    have X8 : Hid (SAt 29 w8 g7 x) := LAt.later X6.out b68
    have Z8 : Hid (SAt 29 w8 w7.heap.size x) := by rw [hw8]; exact LAt.new 29 w7 _
    have hg13 : w.heap.size ≤ w7.heap.size := by have := B6.out.size; have := b7.size; omega
    have H8 : Hid (SB w8 p n c xs) := H6.out.later b68
    have B8 : Hid (Below w.heap.size w w8) := below_then B6.out b68
    have L8 : Hid (_) := SAt.load29 X8.out
    have M8 : Hid (_) := SAt.load29 Z8.out
    have N8 : Hid (∀ w, (binOp .neq 29 (.agg (scells x).toArray) (.agg (scells x).toArray)).run Tryd.prog w = .ok (.bool false) w) := fun w => by have := neq29 w x x; rwa [supB_same x] at this
    rw [← hw8] at S7
    clear b7 b78 b68 hw8 X6 E6 H6 B6
    go_wp2_with ((with_reducible refine at_ops ?_); (first | (refine wpList_alloc_is (by rfl) 29 rfl A7.out ?_) | (refine wpList_store_is (by rfl) 29 rfl rfl rfl S7.out ?_)); simp only [Act.put, List.setIfInBounds_toArray, List.set_cons_zero, List.set_cons_succ])
    refine (num_any 0 (by decide) w8).mono ?_
    rintro e wz ⟨rfl, rfl⟩
    clear A7 S7
    generalize w7.heap.size = g13 at *
    have HN : Hid (∀ ad, p = some ad → ∀ j u, (U8 xs)[j]? = some u → (w8.alloc (.cells #[] 5)).cell? (ad.add j) = some u) := by
      intro ad had
      have := (H8.out.later (below_alloc w8 (.cells #[] 5))).inn
      rw [had] at this
      exact this.news
    have HL : Hid ((U8 xs).length = n * 1) := by show _ = _; rw [List.length_map, H8.out.inn.len, Nat.mul_one]
    have HM : Hid ((w8.alloc (.cells #[] 5)).ownsRow w8.heap.size 5 1 (.slice (some ⟨w8.heap.size, 0, none⟩) 0 0) 0 []) := World.ownsRow_made w8 #[] 0 (Nat.le_refl _) (Nat.zero_le _) rfl
    have HNn : Hid (p = none → n = 0 ∧ c = 0) := fun h => by have := H8.out.nil h; have := H8.out.le; omega
    go_wp2_with (first | (at_builtin; refine wpList_append_ownany _ rfl (.tmp 73) (.tmp 74) 27 rfl w8.heap.size 5 i0 (.int .u8 0) 1 1 Tryd.underlying27 hi hz0 hz1 hz2 rfl (by decide) _ 0 [] rfl HM.out p n c (U8 xs) rfl HNn.out HL.out HN.out (ones_u8 _) (by unfold maxLen; omega) (by omega) (by simp) ?_) | ((with_reducible refine at_ops ?_); (first | (refine wpList_load_is (by rfl) 29 rfl rfl L8.out ?_) | (refine wpList_load_is (by rfl) 29 rfl rfl M8.out ?_) | (refine wpList_neq_is (by rfl) 29 rfl rfl rfl eqg29 (N8.out _) ?_)); simp only [Act.put, List.setIfInBounds_toArray, List.set_cons_zero, List.set_cons_succ]))
    intro v9 w9 hown9 hgrow9
    obtain ⟨p9, c9, rfl, m9⟩ := made_of_append (n := n) H8.out.inn.byte (by simpa using hown9) hgrow9
    have Z9 : Hid (SAt 29 w9 g13 x) := LAt.later Z8.out m9.below
    have E9 : Hid (BIn w9 p9 n xs) := m9.read
    have hc9 := m9.le
    have H9 : Hid (SB w9 p n c xs) := H8.out.later m9.below
    have B9 : Hid (Below w.heap.size w w9) := below_then B8.out m9.below
    clear hown9 hgrow9 m9 HN HL HM HNn X8 Z8 H8 B8 L8 M8 N8
    go_wp2_with fail
    refine (decode_any p9 n c9 xs w9 E9.out hc9 (HT.out.later B9.out)).mono ?_
    rintro e w10 ⟨rfl, b10⟩
    have HGD : Hid (_) := decS_good xs
    have HER : Hid (_) := decS_err xs
    have HDW : Hid (_) := decS_wf xs H9.out.inn.byte
    have HI : Hid (_) := dec_i64 xs
    obtain ⟨r, E, hd⟩ : ∃ r E, decS xs = (r, E) := ⟨_, _, rfl⟩
    rw [hd] at HGD HER HDW HI ⊢
    clear hd
    have Z10 : SAt 29 w10 g13 x := LAt.later Z9.out b10
    have B10 := below_then B9.out b10
    have S10 : Hid (_) := LAt.store (ds := scells r) Z10 size29 rfl (scells_all r)
    have H10 := H9.out.later b10
    obtain ⟨w11, hw11⟩ : ∃ q, q = w10.setRow g13 (scells r).toArray := ⟨_, rfl⟩
    have Z11 : Hid (SAt 29 w11 g13 r) := by rw [hw11]; exact LAt.stored Z10 _
    have B11 : Hid (Below w.heap.size w w11) := by rw [hw11]; exact below_setRow B10 hg13 _
    rw [← hw11] at S10
    have L11 : Hid (_) := SAt.load29 Z11.out
    have H11 : Hid (SB w11 p n c xs) := HH.out.later B11.out
    clear b10 Z10 B10 H10 hw11 Z9 E9 H9 B9
    by_cases h0 : E = 0
    · subst h0
      obtain ⟨hm, he, hl⟩ := HGD.out rfl
      have HM : Hid (May r) := hm
      have HE : Hid (encS r = xs) := he
      clear hm he hl
      go_wp2_with ((with_reducible refine at_ops ?_); (first | (refine wpList_store_is (by rfl) 29 rfl rfl rfl S10.out ?_)); simp only [Act.put])
      refine (num_any 0 (by decide) w11).mono ?_
      rintro e wz ⟨rfl, rfl⟩
      clear S10
      go_wp2_with ((with_reducible refine at_ops ?_); (first | (refine wpList_load_is (by rfl) 29 rfl rfl L11.out ?_)); simp only [Act.put, List.setIfInBounds_toArray, List.set_cons_zero, List.set_cons_succ])
      refine (encode_good r HDW.out HM.out w11 (HT.out.later B11.out)).mono ?_
      rintro e w12 ⟨g12, rfl, m12⟩
      have B12 : Hid (Below w.heap.size w w12) := below_then B11.out m12.below
      have q1 := m12.read.str 64
      have q2 := (H11.out.later m12.below).inn.str c
      rw [HE.out] at q1
      clear m12
      go_wp2_with fail
      refine (num_any 0 (by decide) w12).mono ?_
      rintro e wz ⟨rfl, rfl⟩
      go_wp2_with fail
      go_ret
      exact ⟨by simp, B12.out⟩
    · have hr : r = sup0 := HER.out h0
      subst hr
      have K0 : Hid (∀ w, (Instr.build 29 #[]).run Tryd.prog w = .ok (.agg (scells sup0).toArray) w) := fun w => build29 w #[] sup0 fill_none
      have Q0 : Hid (∀ w, (binOp .eql 29 (.agg (scells sup0).toArray) (.agg (scells sup0).toArray)).run Tryd.prog w = .ok (.bool true) w) := fun w => by have := eql29 w sup0 sup0; rwa [supB_same sup0] at this
      have hE : (E != 0) = true := by simp; exact h0
      go_wp2_with ((with_reducible refine at_ops ?_); (first | (refine wpList_store_is (by rfl) 29 rfl rfl rfl S10.out ?_)); simp only [Act.put])
      refine (num_any E HI.out w11).mono ?_
      rintro e wz ⟨rfl, rfl⟩
      go_wp2_with ((with_reducible refine at_ops ?_); (first | (refine wpList_load_is (by rfl) 29 rfl rfl L11.out ?_) | (refine wpList_build_is (vs := []) (by rfl) 29 rfl (by rfl) (K0.out _) ?_) | (refine wpList_eql_is (by rfl) 29 rfl rfl rfl eqg29 (Q0.out _) ?_)); simp only [Act.put, List.setIfInBounds_toArray, List.set_cons_zero, List.set_cons_succ])
      go_ret
      exact ⟨by simp, B11.out⟩
end Go.Proofs.YtcfofoddfhbkcaaDoor
