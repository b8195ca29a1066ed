/-
  Layer 13: tells. Layer 13: tells, where somebody waits. Layer 13: begins.
-/
import Derived.Test.YtnbegddpgmejnaaGreatWe
import Derived.Test.YtnbegddpgmejnaaGreatRe
namespace Go.Proofs.YtnbegddpgmejnaaGreat
open Go.RowKit

variable {w0 w w' : World} {P : Nat} {q : Nat → Nat} {S D : Nat → Ad} {X : Nat → Th} {N a b j k k2 : Nat}

theorem bne_self_i (a : Int) : (a == a) = true ∧ (a != a) = false := ⟨by simp, by simp⟩
theorem bne_self_b (a : Bool) : (a == a) = true ∧ (a != a) = false := ⟨by simp, by simp⟩
theorem St.immNil (h : St w0 w P q S D X N a b) (hk : k < 6) : St w0 w P q S D (put X k (.im (.slice none ([] : List Int).length 0) [])) N a b := by
  obtain ⟨T, G, h, hs⟩ := h
  exact ⟨_, G, h.add (k := 8 + k) (by omega) (u := .im (.slice none ([] : List Int).length 0) []) ⟨Frm.nil _, fun g hg => (by cases hg)⟩ (fun b hb => hb.elim), hs.loose hk⟩
set_option maxHeartbeats 8000000 in
set_option maxRecDepth 100000 in
theorem tells_nil (h : St w0 w P q S S X N a b) (hj : j < 2) (hN : (S j).next ≤ 1000) (ha : a ≤ 4000) (hb : b ≤ 4000) (hX : X 0 = .no ∧ X 1 = .no ∧ X 3 = .no ∧ X 4 = .no ∧ X 5 = .no) {t : Int} (ht : L.U64 t) (hW : (S j).W = []) :
    Calls Tryz.prog 10 #[qp P, .int .i64 j, .int .u64 t] w fun e w' => e = .returned (.bool true) ∧ St w0 w' P q S S X N (a + 2) (b + 4) := by
  have HX : Hid (X 0 = .no ∧ X 1 = .no ∧ X 3 = .no ∧ X 4 = .no ∧ X 5 = .no) := hX
  have ok := h.ok hj
  have e1 : (S j).fT = 0 := by simp [Ad.fT, hW]
  have e2 : (S j).fF = ([] : List Int) := by simp [Ad.fF, hW]
  have e3 : (S j).isW = false := by simp [Ad.isW, hW]
  have hwl : (wt (S j).W).length ≤ 1000 := by have := ok.wlen; simp only [wt, List.length_map]; omega
  have hil : (it (S j).I).length ≤ 1000 := by have := ok.ilen; simp only [it, List.length_map]; omega
  have hfl : ([] : List Int).length ≤ 16 := by rw [← e2]; exact ok.flen
  have HF : Hid (∀ (w' : World) (X' : Nat → Th) (k : Nat), k < 6 → St w0 w' P q S S X' N a b → Calls Tryz.prog 36 #[qp (q j)] w' fun e w'' => ∃ p c, e = .returned (.tuple #[.int .u64 0, .slice p ([] : List Int).length c, .bool false]) ∧ St w0 w'' P q S S (put X' k (.lf (.slice p ([] : List Int).length c) ([] : List Int))) N a b) := by
    intro w' X' k hk h'
    have := s_first h' hj hk hN
    rw [e1, e2, e3] at this
    exact this
  have HD : Hid (St w0 w P q S S X N a b) := h
  have HW : Hid ((S j).W = []) := hW
  obtain ⟨c0, c1⟩ := h.cells hj
  have d0 : w.drew.cell? ⟨P, j, none⟩ = some (qp (q j)) := c0
  have d1 : w.drew.cell? ⟨P, 2 + j, none⟩ = some (qp (q (j + 2))) := c1
  have i1 : (j : Int) < 2 := by omega
  clear h ok e1 e2 e3 hW hX
  go_enter Tryz.func10, Tryz.ntmps10
  go_wp2_with fail
  go_quiet (fail)
  have H0 : Hid (St w0 (w.drewN nq) P q S S X N a b) := HD.out.later (below_drawn nq)
  clear c0 c1 d0 d1 HD
  revert H0
  generalize w.drewN nq = wd
  intro H0
  go_wp2_with fail
  refine (HF.out _ _ 0 (by omega) H0.out).mono ?_
  rintro e w1 ⟨p1, c1, rfl, h1⟩
  have H1 : Hid (St w0 w1 P q S S (put X 0 (.lf (.slice p1 ([] : List Int).length c1) ([] : List Int))) N a b) := h1
  clear h1 H0
  go_wp2_with fail
  refine (HF.out _ _ 1 (by omega) H1.out).mono ?_
  rintro e w2 ⟨p2, c2, rfl, h2⟩
  have H2' : Hid (St w0 w2 P q S S (put (put X 0 (.lf (.slice p1 ([] : List Int).length c1) ([] : List Int))) 1 (.lf (.slice p2 ([] : List Int).length c2) ([] : List Int))) N a b) := h2
  clear h2 H1 HF
  obtain ⟨pw0, _, cw0, _, y6, _⟩ := d_cells H2'.out hj
  rw [HW.out] at y6
  have H2 : Hid (St w0 w2 P q S S (put (put (put X 0 (.lf (.slice p1 ([] : List Int).length c1) ([] : List Int))) 1 (.lf (.slice p2 ([] : List Int).length c2) ([] : List Int))) 3 (.im (.slice none ([] : List Int).length 0) ([] : List Int))) N a b) := H2'.out.immNil (k := 3) (by omega)
  clear H2'
  obtain ⟨qb, qb'⟩ := bne_self_i ((S j).leftN t)
  obtain ⟨qc, qc'⟩ := bne_self_b ((S j).leftB t)
  obtain ⟨qd, qd'⟩ := bne_self_b (S j).fits
  obtain ⟨qe, qe'⟩ := bne_self_i (S j).used
  obtain ⟨qf, qf'⟩ := bne_self_i (S j).rsv
  go_wp2_with fail
  refine (form_at (k := 0) (k2 := 3) H2.out (by omega) rfl (by omega) rfl hfl (by omega)).mono ?_
  rintro e w3 ⟨rfl, h3⟩
  have H3 : Hid (St w0 w3 P q S S (put (put (put (put X 0 (.lf (.slice p1 ([] : List Int).length c1) ([] : List Int))) 1 (.lf (.slice p2 ([] : List Int).length c2) ([] : List Int))) 3 (.im (.slice none ([] : List Int).length 0) ([] : List Int))) 0 .no) N (a + 1) b) := h3
  clear h3 H2
  go_wp2_with fail
  refine (form_at (k := 1) (k2 := 3) H3.out (by omega) rfl (by omega) rfl hfl (by omega)).mono ?_
  rintro e w4 ⟨rfl, h4⟩
  have H4 : Hid (St w0 w4 P q S S (put (put (put (put (put (put X 0 (.lf (.slice p1 ([] : List Int).length c1) ([] : List Int))) 1 (.lf (.slice p2 ([] : List Int).length c2) ([] : List Int))) 3 (.im (.slice none ([] : List Int).length 0) ([] : List Int))) 0 .no) 1 .no) 3 .no) N (a + 2) b) := h4.drop (k := 3) (by omega)
  clear h4 H3
  go_wp2_with fail
  refine (s_left H4.out hj ht).mono ?_
  rintro e w5 ⟨rfl, hw5⟩
  subst hw5
  go_wp2_with fail
  refine (d_left H4.out hj hN t).mono ?_
  rintro e w6 ⟨rfl, hw6⟩
  subst hw6
  go_wp2_with fail
  refine wp_region_noPanic ?_
  refine wp_region_held_drew (S := Bw w6.drew) (by kernel_rfl) (Below.refl _ _) (fun hHeld => ?_)
  have HE : Hid (St w0 w6.drew P q S S (put (put (put (put (put (put X 0 (.lf (.slice p1 ([] : List Int).length c1) ([] : List Int))) 1 (.lf (.slice p2 ([] : List Int).length c2) ([] : List Int))) 3 (.im (.slice none ([] : List Int).length 0) ([] : List Int))) 0 .no) 1 .no) 3 .no) N (a + 2) b) := H4.out.later (below_drew w6)
  clear H4
  generalize w6.drew = we at *
  have B0 : Hid (Bw we we) := Below.refl _ _
  have HRU : Hid (∀ w', Bw we w' → w'.cell? ⟨q (j + 2), 8, none⟩ = some (.int .i64 (S j).used)) := fun w' hb => by
    obtain ⟨_, _, _, _, _, _, h8, _, _⟩ := d_cells (HE.out.later hb) hj
    exact h8
  refine wpAnyH_take (i := 0) (v := ?va1) (by simp; rfl) (by kernel_rfl) (by kernel_rfl) (by kernel_rfl) (fun _ _ _ h => h) (Or.inl ⟨by rfl, ?ya1⟩) hHeld ?ra1
  case ya1 => intro w hSw; clear hSw; go_simp; with_reducible rfl
  simp only [Act.put, List.setIfInBounds_toArray, List.set_cons_zero, List.set_cons_succ]
  refine wpAnyH_take (i := 1) (v := ?va2) (by simp; rfl) (by kernel_rfl) (by kernel_rfl) (by kernel_rfl) (fun _ _ _ h => h) (Or.inl ⟨by rfl, ?ya2⟩) hHeld ?ra2
  case ya2 => intro w hSw; clear hSw; go_simp; with_reducible rfl
  simp only [Act.put, List.setIfInBounds_toArray, List.set_cons_zero, List.set_cons_succ]
  refine wpAnyH_take (i := 2) (v := ?va3) (by simp; rfl) (by kernel_rfl) (by kernel_rfl) (by kernel_rfl) (fun _ _ _ h => h) (Or.inl ⟨by rfl, ?ya3⟩) hHeld ?ra3
  case ya3 => intro w hSw; clear hSw; go_simp; with_reducible rfl
  simp only [Act.put, List.setIfInBounds_toArray, List.set_cons_zero, List.set_cons_succ]
  refine wpAnyH_take (i := 3) (v := ?va4) (by simp; rfl) (by kernel_rfl) (by kernel_rfl) (by kernel_rfl) (fun _ _ _ h => h) (Or.inl ⟨by rfl, ?ya4⟩) hHeld ?ra4
  case ya4 => intro w hSw; clear hSw; go_simp; with_reducible rfl
  simp only [Act.put, List.setIfInBounds_toArray, List.set_cons_zero, List.set_cons_succ]
  refine wpAnyH_take (i := 4) (v := ?va5) (by simp; rfl) (by kernel_rfl) (by kernel_rfl) (by kernel_rfl) (fun _ _ _ h => h) (Or.inl ⟨by rfl, ?ya5⟩) hHeld ?ra5
  case ya5 => intro w hSw; clear hSw; go_simp; with_reducible rfl
  simp only [Act.put, List.setIfInBounds_toArray, List.set_cons_zero, List.set_cons_succ]
  refine wpAnyH_take (i := 5) (v := ?va6) (by simp; rfl) (by kernel_rfl) (by kernel_rfl) (by kernel_rfl) (fun _ _ _ h => h) (Or.inl ⟨by rfl, ?ya6⟩) hHeld ?ra6
  case ya6 => intro w hSw; clear hSw; go_simp; with_reducible rfl
  simp only [Act.put, List.setIfInBounds_toArray, List.set_cons_zero, List.set_cons_succ]
  refine wpAnyH_take (i := 6) (v := ?va7) (by simp; rfl) (by kernel_rfl) (by kernel_rfl) (by kernel_rfl) (fun _ _ _ h => h) (Or.inl ⟨by rfl, ?ya7⟩) hHeld ?ra7
  case ya7 => intro w hSw; clear hSw; go_simp; with_reducible rfl
  simp only [Act.put, List.setIfInBounds_toArray, List.set_cons_zero, List.set_cons_succ]
  refine wpAnyH_take (i := 7) (v := ?va8) (by simp; rfl) (by kernel_rfl) (by kernel_rfl) (by kernel_rfl) (fun _ _ _ h => h) (Or.inl ⟨by rfl, ?ya8⟩) hHeld ?ra8
  case ya8 => intro w hSw; clear hSw; go_simp; with_reducible rfl
  simp only [Act.put, List.setIfInBounds_toArray, List.set_cons_zero, List.set_cons_succ]
  refine wpAnyH_take (i := 8) (v := ?va9) (by simp; rfl) (by kernel_rfl) (by kernel_rfl) (by kernel_rfl) (fun _ _ _ h => h) (Or.inl ⟨by rfl, ?ya9⟩) hHeld ?ra9
  case ya9 => intro w hSw; clear hSw; go_simp; with_reducible rfl
  simp only [Act.put, List.setIfInBounds_toArray, List.set_cons_zero, List.set_cons_succ]
  refine wpAnyH_take (i := 9) (v := ?va10) (by simp; rfl) (by kernel_rfl) (by kernel_rfl) (by kernel_rfl) (fun _ _ _ h => h) (Or.inl ⟨by rfl, ?ya10⟩) hHeld ?ra10
  case ya10 => intro w hSw; clear hSw; go_simp; with_reducible rfl
  simp only [Act.put, List.setIfInBounds_toArray, List.set_cons_zero, List.set_cons_succ]
  refine wpAnyH_take (i := 11) (v := ?va11) (by simp; rfl) (by kernel_rfl) (by kernel_rfl) (by kernel_rfl) (fun _ _ _ h => h) (Or.inl ⟨by rfl, ?ya11⟩) hHeld ?ra11
  case ya11 => intro w hSw; clear hSw; go_simp; with_reducible rfl
  simp only [Act.put, List.setIfInBounds_toArray, List.set_cons_zero, List.set_cons_succ]
  refine wpAnyH_ready (rs := [10]) (by kernel_rfl) (by simp) ?_
  refine AllReadyH.cons (by simp; rfl) (fun Kc hKc => ?_) AllReadyH.nil
  go_simp
  refine (s_fits (HE.out.later B0.out) hj hN).mono ?_
  rintro e wk12 ⟨rfl, hb⟩
  have B12 : Hid (Bw we wk12) := below_then B0.out hb
  clear hb
  refine hKc.out _ _ B12.out (fun hHeld => ?_)
  clear hKc Kc B0
  refine wpAnyH_ready (rs := [12]) (by kernel_rfl) (by simp) ?_
  refine AllReadyH.cons (by simp; rfl) (fun Kc hKc => ?_) AllReadyH.nil
  go_simp
  refine (d_fits (HE.out.later B12.out) hj hN).mono ?_
  rintro e wk13 ⟨rfl, hb⟩
  have B13 : Hid (Bw we wk13) := below_then B12.out hb
  clear hb
  refine hKc.out _ _ B13.out (fun hHeld => ?_)
  clear hKc Kc B12
  refine wpAnyH_take (i := 13) (v := ?va14) (by simp; rfl) (by kernel_rfl) (by kernel_rfl) (by kernel_rfl) (fun _ _ _ h => h) (Or.inl ⟨by rfl, ?ya14⟩) hHeld ?ra14
  case ya14 => intro w hSw; clear hSw; go_simp; with_reducible rfl
  simp only [Act.put, List.setIfInBounds_toArray, List.set_cons_zero, List.set_cons_succ]
  refine wpAnyH_take (i := 14) (v := ?va15) (by simp; rfl) (by kernel_rfl) (by kernel_rfl) (by kernel_rfl) (fun _ _ _ h => h) (Or.inl ⟨by rfl, ?ya15⟩) hHeld ?ra15
  case ya15 => intro w hSw; clear hSw; go_simp; with_reducible rfl
  simp only [Act.put, List.setIfInBounds_toArray, List.set_cons_zero, List.set_cons_succ]
  refine wpAnyH_take (i := 15) (v := ?va16) (by simp; rfl) (by kernel_rfl) (by kernel_rfl) (by kernel_rfl) (fun _ _ _ h => h) (Or.inl ⟨by rfl, ?ya16⟩) hHeld ?ra16
  case ya16 => intro w hSw; clear hSw; go_simp; with_reducible rfl
  simp only [Act.put, List.setIfInBounds_toArray, List.set_cons_zero, List.set_cons_succ]
  refine wpAnyH_take (i := 16) (v := ?va17) (by simp; rfl) (by kernel_rfl) (by kernel_rfl) (by kernel_rfl) (fun _ _ _ h => h) (Or.inl ⟨by rfl, ?ya17⟩) hHeld ?ra17
  case ya17 => intro w hSw; clear hSw; go_simp; with_reducible rfl
  simp only [Act.put, List.setIfInBounds_toArray, List.set_cons_zero, List.set_cons_succ]
  refine wpAnyH_take (i := 18) (v := ?va18) (by simp; rfl) (by kernel_rfl) (by kernel_rfl) (by kernel_rfl) (fun _ _ _ h => h) (Or.inl ⟨by rfl, ?ya18⟩) hHeld ?ra18
  case ya18 => intro w hSw; clear hSw; go_simp; with_reducible rfl
  simp only [Act.put, List.setIfInBounds_toArray, List.set_cons_zero, List.set_cons_succ]
  refine wpAnyH_take (i := 19) (v := ?va19) (by simp; rfl) (by kernel_rfl) (by kernel_rfl) (by kernel_rfl) (fun _ _ _ h => h) (Or.inl ⟨by rfl, ?ya19⟩) hHeld ?ra19
  case ya19 => intro w hSw; clear hSw; go_simp; with_reducible rfl
  simp only [Act.put, List.setIfInBounds_toArray, List.set_cons_zero, List.set_cons_succ]
  refine wpAnyH_take (i := 20) (v := ?va20) (by simp; rfl) (by kernel_rfl) (by kernel_rfl) (by kernel_rfl) (fun _ _ _ h => h) (Or.inl ⟨by rfl, ?ya20⟩) hHeld ?ra20
  case ya20 => intro w hSw; clear hSw; go_simp; with_reducible rfl
  simp only [Act.put, List.setIfInBounds_toArray, List.set_cons_zero, List.set_cons_succ]
  refine wpAnyH_take (i := 21) (v := ?va21) (by simp; rfl) (by kernel_rfl) (by kernel_rfl) (by kernel_rfl) (fun _ _ _ h => h) (Or.inl ⟨by rfl, ?ya21⟩) hHeld ?ra21
  case ya21 => intro w hSw; have z := HRU.out w hSw; clear hSw; go_simp; with_reducible rfl
  simp only [Act.put, List.setIfInBounds_toArray, List.set_cons_zero, List.set_cons_succ]
  refine wpAnyH_ready (rs := [17]) (by kernel_rfl) (by simp) ?_
  refine AllReadyH.cons (by simp; rfl) (fun Kc hKc => ?_) AllReadyH.nil
  go_simp
  refine (s_used (HE.out.later B13.out) hj).mono ?_
  rintro e wq ⟨rfl, rfl⟩
  refine hKc.out _ _ B13.out (fun hHeld => ?_)
  clear hKc Kc
  refine wpAnyH_take (i := 22) (v := ?va23) (by simp; rfl) (by kernel_rfl) (by kernel_rfl) (by kernel_rfl) (fun _ _ _ h => h) (Or.inl ⟨by rfl, ?ya23⟩) hHeld ?ra23
  case ya23 => intro w hSw; clear hSw; go_simp; with_reducible rfl
  simp only [Act.put, List.setIfInBounds_toArray, List.set_cons_zero, List.set_cons_succ]
  refine wpAnyH_take (i := 23) (v := ?va24) (by simp; rfl) (by kernel_rfl) (by kernel_rfl) (by kernel_rfl) (fun _ _ _ h => h) (Or.inl ⟨by rfl, ?ya24⟩) hHeld ?ra24
  case ya24 => intro w hSw; clear hSw; go_simp; with_reducible rfl
  simp only [Act.put, List.setIfInBounds_toArray, List.set_cons_zero, List.set_cons_succ]
  refine wpAnyH_take (i := 24) (v := ?va25) (by simp; rfl) (by kernel_rfl) (by kernel_rfl) (by kernel_rfl) (fun _ _ _ h => h) (Or.inl ⟨by rfl, ?ya25⟩) hHeld ?ra25
  case ya25 => intro w hSw; clear hSw; go_simp; with_reducible rfl
  simp only [Act.put, List.setIfInBounds_toArray, List.set_cons_zero, List.set_cons_succ]
  refine wpAnyH_take (i := 25) (v := ?va26) (by simp; rfl) (by kernel_rfl) (by kernel_rfl) (by kernel_rfl) (fun _ _ _ h => h) (Or.inl ⟨by rfl, ?ya26⟩) hHeld ?ra26
  case ya26 => intro w hSw; clear hSw; go_simp; with_reducible rfl
  simp only [Act.put, List.setIfInBounds_toArray, List.set_cons_zero, List.set_cons_succ]
  refine wpAnyH_take (i := 27) (v := ?va27) (by simp; rfl) (by kernel_rfl) (by kernel_rfl) (by kernel_rfl) (fun _ _ _ h => h) (Or.inl ⟨by rfl, ?ya27⟩) hHeld ?ra27
  case ya27 => intro w hSw; clear hSw; go_simp; with_reducible rfl
  simp only [Act.put, List.setIfInBounds_toArray, List.set_cons_zero, List.set_cons_succ]
  refine wpAnyH_ready (rs := [26]) (by kernel_rfl) (by simp) ?_
  refine AllReadyH.cons (by simp; rfl) (fun Kc hKc => ?_) AllReadyH.nil
  go_simp
  refine (s_reserved (HE.out.later B13.out) hj).mono ?_
  rintro e wq ⟨rfl, rfl⟩
  refine hKc.out _ _ B13.out (fun hHeld => ?_)
  clear hKc Kc
  refine wpAnyH_ready (rs := [28]) (by kernel_rfl) (by simp) ?_
  refine AllReadyH.cons (by simp; rfl) (fun Kc hKc => ?_) AllReadyH.nil
  go_simp
  refine (d_reserved (HE.out.later B13.out) hj hN).mono ?_
  rintro e wk29 ⟨rfl, hb⟩
  have B29 : Hid (Bw we wk29) := below_then B13.out hb
  clear hb
  refine hKc.out _ _ B29.out (fun hHeld => ?_)
  clear hKc Kc B13
  refine wpAnyH_take (i := 29) (v := ?va30) (by simp; rfl) (by kernel_rfl) (by kernel_rfl) (by kernel_rfl) (fun _ _ _ h => h) (Or.inl ⟨by rfl, ?ya30⟩) hHeld ?ra30
  case ya30 => intro w hSw; clear hSw; go_simp; with_reducible rfl
  simp only [Act.put, List.setIfInBounds_toArray, List.set_cons_zero, List.set_cons_succ]
  refine wpAnyH_take (i := 30) (v := ?va31) (by simp; rfl) (by kernel_rfl) (by kernel_rfl) (by kernel_rfl) (fun _ _ _ h => h) (Or.inl ⟨by rfl, ?ya31⟩) hHeld ?ra31
  case ya31 => intro w hSw; clear hSw; go_simp; with_reducible rfl
  simp only [Act.put, List.setIfInBounds_toArray, List.set_cons_zero, List.set_cons_succ]
  refine wpAnyH_done (by kernel_rfl) (NoPanic.normal ?_) _
  have HT : Hid (St w0 wk29 P q S S (put (put (put (put (put (put X 0 (.lf (.slice p1 ([] : List Int).length c1) ([] : List Int))) 1 (.lf (.slice p2 ([] : List Int).length c2) ([] : List Int))) 3 (.im (.slice none ([] : List Int).length 0) ([] : List Int))) 0 .no) 1 .no) 3 .no) N (a + 2) b) := HE.out.later B29.out
  clear hHeld HE B29 HRU
  obtain ⟨wt0, hwt⟩ : ∃ wt0, wt0 = wk29 := ⟨_, rfl⟩
  subst hwt
  go_wp2_with fail
  refine wp_region_noPanic ?_
  refine wp_region_held_drew (S := Bw wt0.drew) (by kernel_rfl) (Below.refl _ _) (fun hHeld => ?_)
  have HG : Hid (St w0 wt0.drew P q S S (put (put (put (put (put (put X 0 (.lf (.slice p1 ([] : List Int).length c1) ([] : List Int))) 1 (.lf (.slice p2 ([] : List Int).length c2) ([] : List Int))) 3 (.im (.slice none ([] : List Int).length 0) ([] : List Int))) 0 .no) 1 .no) 3 .no) N (a + 2) b) := HT.out.later (below_drew wt0)
  clear HT
  generalize wt0.drew = wg at *
  obtain ⟨pw, pi, cw, ci, t6, t7, -, tk1, tk2⟩ := d_cells HG.out hj
  have HTC : Hid (∀ w', Bw wg w' → w'.cell? ⟨q (j + 2), 6, none⟩ = some (.slice pw (S j).W.length cw) ∧ w'.cell? ⟨q (j + 2), 7, none⟩ = some (.slice pi (S j).I.length ci)) := fun w' hb => ⟨(Below.cell hb (p := ⟨q (j + 2), 6, none⟩) (World.block_lt_of_cell? _ _ t6)).trans t6, (Below.cell hb (p := ⟨q (j + 2), 7, none⟩) (World.block_lt_of_cell? _ _ t7)).trans t7⟩
  have HTK : Hid ((∀ w', Bw wg w' → (S j).next ≤ 1000 → Calls Tryz.prog 40 #[.slice pw (S j).W.length cw] w' fun e w'' => ∃ u, e = .returned u ∧ MadeU w' w'' u (wt (S j).W)) ∧ (∀ w', Bw wg w' → (S j).next ≤ 1000 → Calls Tryz.prog 40 #[.slice pi (S j).I.length ci] w' fun e w'' => ∃ u, e = .returned u ∧ MadeU w' w'' u (it (S j).I))) := ⟨tk1, tk2⟩
  clear t6 t7 tk1 tk2
  refine wpAnyH_take (i := 0) (v := ?va32) (by simp; rfl) (by kernel_rfl) (by kernel_rfl) (by kernel_rfl) (fun _ _ _ h => h) (Or.inl ⟨by rfl, ?ya32⟩) hHeld ?ra32
  case ya32 => intro w hSw; clear hSw; go_simp; with_reducible rfl
  simp only [Act.put, List.setIfInBounds_toArray, List.set_cons_zero, List.set_cons_succ]
  refine wpAnyH_take (i := 1) (v := ?va33) (by simp; rfl) (by kernel_rfl) (by kernel_rfl) (by kernel_rfl) (fun _ _ _ h => h) (Or.inl ⟨by rfl, ?ya33⟩) hHeld ?ra33
  case ya33 => intro w hSw; clear hSw; go_simp; with_reducible rfl
  simp only [Act.put, List.setIfInBounds_toArray, List.set_cons_zero, List.set_cons_succ]
  refine wpAnyH_take (i := 2) (v := ?va34) (by simp; rfl) (by kernel_rfl) (by kernel_rfl) (by kernel_rfl) (fun _ _ _ h => h) (Or.inl ⟨by rfl, ?ya34⟩) hHeld ?ra34
  case ya34 => intro w hSw; clear hSw; go_simp; with_reducible rfl
  simp only [Act.put, List.setIfInBounds_toArray, List.set_cons_zero, List.set_cons_succ]
  refine wpAnyH_take (i := 3) (v := ?va35) (by simp; rfl) (by kernel_rfl) (by kernel_rfl) (by kernel_rfl) (fun _ _ _ h => h) (Or.inl ⟨by rfl, ?ya35⟩) hHeld ?ra35
  case ya35 => intro w hSw; have z := (HTC.out w hSw).1; clear hSw; go_simp; with_reducible rfl
  simp only [Act.put, List.setIfInBounds_toArray, List.set_cons_zero, List.set_cons_succ]
  refine wpAnyH_take (i := 5) (v := ?va36) (by simp; rfl) (by kernel_rfl) (by kernel_rfl) (by kernel_rfl) (fun _ _ _ h => h) (Or.inl ⟨by rfl, ?ya36⟩) hHeld ?ra36
  case ya36 => intro w hSw; clear hSw; go_simp; with_reducible rfl
  simp only [Act.put, List.setIfInBounds_toArray, List.set_cons_zero, List.set_cons_succ]
  refine wpAnyH_take (i := 6) (v := ?va37) (by simp; rfl) (by kernel_rfl) (by kernel_rfl) (by kernel_rfl) (fun _ _ _ h => h) (Or.inl ⟨by rfl, ?ya37⟩) hHeld ?ra37
  case ya37 => intro w hSw; clear hSw; go_simp; with_reducible rfl
  simp only [Act.put, List.setIfInBounds_toArray, List.set_cons_zero, List.set_cons_succ]
  refine wpAnyH_take (i := 7) (v := ?va38) (by simp; rfl) (by kernel_rfl) (by kernel_rfl) (by kernel_rfl) (fun _ _ _ h => h) (Or.inl ⟨by rfl, ?ya38⟩) hHeld ?ra38
  case ya38 => intro w hSw; clear hSw; go_simp; with_reducible rfl
  simp only [Act.put, List.setIfInBounds_toArray, List.set_cons_zero, List.set_cons_succ]
  refine wpAnyH_take (i := 8) (v := ?va39) (by simp; rfl) (by kernel_rfl) (by kernel_rfl) (by kernel_rfl) (fun _ _ _ h => h) (Or.inl ⟨by rfl, ?ya39⟩) hHeld ?ra39
  case ya39 => intro w hSw; have z := (HTC.out w hSw).2; clear hSw; go_simp; with_reducible rfl
  simp only [Act.put, List.setIfInBounds_toArray, List.set_cons_zero, List.set_cons_succ]
  refine wpAnyH_ready (rs := [4]) (by kernel_rfl) (by simp) ?_
  refine AllReadyH.cons (by simp; rfl) (fun Kc hKc => ?_) AllReadyH.nil
  go_simp
  refine (HTK.out.1 _ (Below.refl _ _) hN).mono ?_
  rintro e w4 ⟨u4, rfl, hm⟩
  obtain ⟨p4, c4, e4⟩ := own_shape hm.own
  subst e4
  have G4 : Hid (St w0 w4 P q S S (put (put (put (put (put (put (put X 0 (.lf (.slice p1 ([] : List Int).length c1) ([] : List Int))) 1 (.lf (.slice p2 ([] : List Int).length c2) ([] : List Int))) 3 (.im (.slice none ([] : List Int).length 0) ([] : List Int))) 0 .no) 1 .no) 3 .no) 4 (.lu (.slice p4 (wt (S j).W).length c4) (wt (S j).W))) N (a + 2) b) := HG.out.fresh hm.below (by omega) (fun _ => own_zero hm.own) (fun b hb => (hm.own.lt b hb).1)
  have B4 : Hid (Bw wg w4) := hm.below
  clear hm
  refine hKc.out _ _ B4.out (fun hHeld => ?_)
  clear hKc Kc
  refine wpAnyH_ready (rs := [9]) (by kernel_rfl) (by simp) ?_
  refine AllReadyH.cons (by simp; rfl) (fun Kc hKc => ?_) AllReadyH.nil
  go_simp
  refine (HTK.out.2 _ B4.out hN).mono ?_
  rintro e w5 ⟨u5, rfl, hm⟩
  obtain ⟨p5, c5, e5⟩ := own_shape hm.own
  subst e5
  have G5 : Hid (St w0 w5 P q S S (put (put (put (put (put (put (put (put X 0 (.lf (.slice p1 ([] : List Int).length c1) ([] : List Int))) 1 (.lf (.slice p2 ([] : List Int).length c2) ([] : List Int))) 3 (.im (.slice none ([] : List Int).length 0) ([] : List Int))) 0 .no) 1 .no) 3 .no) 4 (.lu (.slice p4 (wt (S j).W).length c4) (wt (S j).W))) 5 (.lu (.slice p5 (it (S j).I).length c5) (it (S j).I))) N (a + 2) b) := G4.out.fresh hm.below (by omega) (fun _ => own_zero hm.own) (fun b hb => (hm.own.lt b hb).1)
  have B5 : Hid (Bw wg w5) := below_then B4.out hm.below
  clear hm
  refine hKc.out _ _ B5.out (fun hHeld => ?_)
  clear hKc Kc B4 G4 HG
  refine wpAnyH_ready (rs := [10]) (by kernel_rfl) (by simp) ?_
  refine AllReadyH.cons (by simp; rfl) (fun Kc hKc => ?_) AllReadyH.nil
  go_simp
  refine hKc.out _ _ B5.out (fun hHeld => ?_)
  clear hKc Kc
  refine wpAnyH_ready (rs := [11]) (by kernel_rfl) (by simp) ?_
  refine AllReadyH.cons (by simp; rfl) (fun Kc hKc => ?_) AllReadyH.nil
  go_simp
  refine hKc.out _ _ B5.out (fun hHeld => ?_)
  clear hKc Kc
  refine wpAnyH_done (by kernel_rfl) (NoPanic.normal ?_) _
  clear hHeld B5 HTC HTK
  go_wp2_with fail
  refine (s_waiting (k := 1) G5.out hj (by omega) hN).mono ?_
  rintro e wa0 ⟨pa0, ca0, rfl, hA⟩
  have A0 : Hid (St w0 wa0 P q S S (put (put (put (put (put (put (put (put (put X 0 (.lf (.slice p1 ([] : List Int).length c1) ([] : List Int))) 1 (.lf (.slice p2 ([] : List Int).length c2) ([] : List Int))) 3 (.im (.slice none ([] : List Int).length 0) ([] : List Int))) 0 .no) 1 .no) 3 .no) 4 (.lu (.slice p4 (wt (S j).W).length c4) (wt (S j).W))) 5 (.lu (.slice p5 (it (S j).I).length c5) (it (S j).I))) 1 (.lu (.slice pa0 (wt (S j).W).length ca0) (wt (S j).W))) N (a + 2) (b + 0)) := hA
  clear hA G5
  go_wp2_with fail
  refine (line_at (k := 1) (k2 := 4) A0.out (by omega) rfl (by omega) rfl hwl (by omega)).mono ?_
  rintro e wb0 ⟨rfl, hA⟩
  have C0 : Hid (St w0 wb0 P q S S (put (put (put (put (put (put (put (put X 0 (.lf (.slice p1 ([] : List Int).length c1) ([] : List Int))) 1 (.lf (.slice p2 ([] : List Int).length c2) ([] : List Int))) 3 (.im (.slice none ([] : List Int).length 0) ([] : List Int))) 0 .no) 1 .no) 3 .no) 4 (.lu (.slice p4 (wt (S j).W).length c4) (wt (S j).W))) 5 (.lu (.slice p5 (it (S j).I).length c5) (it (S j).I))) N (a + 2) (b + 1)) := by
    have e1 : put (put (put (put (put (put (put (put (put (put X 0 (.lf (.slice p1 ([] : List Int).length c1) ([] : List Int))) 1 (.lf (.slice p2 ([] : List Int).length c2) ([] : List Int))) 3 (.im (.slice none ([] : List Int).length 0) ([] : List Int))) 0 .no) 1 .no) 3 .no) 4 (.lu (.slice p4 (wt (S j).W).length c4) (wt (S j).W))) 5 (.lu (.slice p5 (it (S j).I).length c5) (it (S j).I))) 1 (.lu (.slice pa0 (wt (S j).W).length ca0) (wt (S j).W))) 1 .no = (put (put (put (put (put (put (put (put X 0 (.lf (.slice p1 ([] : List Int).length c1) ([] : List Int))) 1 (.lf (.slice p2 ([] : List Int).length c2) ([] : List Int))) 3 (.im (.slice none ([] : List Int).length 0) ([] : List Int))) 0 .no) 1 .no) 3 .no) 4 (.lu (.slice p4 (wt (S j).W).length c4) (wt (S j).W))) 5 (.lu (.slice p5 (it (S j).I).length c5) (it (S j).I))) := by rw [put_put]; exact put_idem _ _ rfl
    rw [e1] at hA
    exact hA
  clear hA A0
  go_wp2_with fail
  refine (s_waiting (k := 1) C0.out hj (by omega) hN).mono ?_
  rintro e wa1 ⟨pa1, ca1, rfl, hA⟩
  have A1 : Hid (St w0 wa1 P q S S (put (put (put (put (put (put (put (put (put X 0 (.lf (.slice p1 ([] : List Int).length c1) ([] : List Int))) 1 (.lf (.slice p2 ([] : List Int).length c2) ([] : List Int))) 3 (.im (.slice none ([] : List Int).length 0) ([] : List Int))) 0 .no) 1 .no) 3 .no) 4 (.lu (.slice p4 (wt (S j).W).length c4) (wt (S j).W))) 5 (.lu (.slice p5 (it (S j).I).length c5) (it (S j).I))) 1 (.lu (.slice pa1 (wt (S j).W).length ca1) (wt (S j).W))) N (a + 2) (b + 1)) := hA
  clear hA C0
  go_wp2_with fail
  refine (line_at (k := 1) (k2 := 4) A1.out (by omega) rfl (by omega) rfl hwl (by omega)).mono ?_
  rintro e wb1 ⟨rfl, hA⟩
  have C1 : Hid (St w0 wb1 P q S S (put (put (put (put (put (put (put (put X 0 (.lf (.slice p1 ([] : List Int).length c1) ([] : List Int))) 1 (.lf (.slice p2 ([] : List Int).length c2) ([] : List Int))) 3 (.im (.slice none ([] : List Int).length 0) ([] : List Int))) 0 .no) 1 .no) 3 .no) 4 (.lu (.slice p4 (wt (S j).W).length c4) (wt (S j).W))) 5 (.lu (.slice p5 (it (S j).I).length c5) (it (S j).I))) N (a + 2) (b + 2)) := by
    have e1 : put (put (put (put (put (put (put (put (put (put X 0 (.lf (.slice p1 ([] : List Int).length c1) ([] : List Int))) 1 (.lf (.slice p2 ([] : List Int).length c2) ([] : List Int))) 3 (.im (.slice none ([] : List Int).length 0) ([] : List Int))) 0 .no) 1 .no) 3 .no) 4 (.lu (.slice p4 (wt (S j).W).length c4) (wt (S j).W))) 5 (.lu (.slice p5 (it (S j).I).length c5) (it (S j).I))) 1 (.lu (.slice pa1 (wt (S j).W).length ca1) (wt (S j).W))) 1 .no = (put (put (put (put (put (put (put (put X 0 (.lf (.slice p1 ([] : List Int).length c1) ([] : List Int))) 1 (.lf (.slice p2 ([] : List Int).length c2) ([] : List Int))) 3 (.im (.slice none ([] : List Int).length 0) ([] : List Int))) 0 .no) 1 .no) 3 .no) 4 (.lu (.slice p4 (wt (S j).W).length c4) (wt (S j).W))) 5 (.lu (.slice p5 (it (S j).I).length c5) (it (S j).I))) := by rw [put_put]; exact put_idem _ _ rfl
    rw [e1] at hA
    exact hA
  clear hA A1
  go_wp2_with fail
  refine (s_in (k := 1) C1.out hj (by omega) hN).mono ?_
  rintro e wa2 ⟨pa2, ca2, rfl, hA⟩
  have A2 : Hid (St w0 wa2 P q S S (put (put (put (put (put (put (put (put (put X 0 (.lf (.slice p1 ([] : List Int).length c1) ([] : List Int))) 1 (.lf (.slice p2 ([] : List Int).length c2) ([] : List Int))) 3 (.im (.slice none ([] : List Int).length 0) ([] : List Int))) 0 .no) 1 .no) 3 .no) 4 (.lu (.slice p4 (wt (S j).W).length c4) (wt (S j).W))) 5 (.lu (.slice p5 (it (S j).I).length c5) (it (S j).I))) 1 (.lu (.slice pa2 (it (S j).I).length ca2) (it (S j).I))) N (a + 2) (b + 2)) := hA
  clear hA C1
  go_wp2_with fail
  refine (line_at (k := 1) (k2 := 5) A2.out (by omega) rfl (by omega) rfl hil (by omega)).mono ?_
  rintro e wb2 ⟨rfl, hA⟩
  have C2 : Hid (St w0 wb2 P q S S (put (put (put (put (put (put (put (put X 0 (.lf (.slice p1 ([] : List Int).length c1) ([] : List Int))) 1 (.lf (.slice p2 ([] : List Int).length c2) ([] : List Int))) 3 (.im (.slice none ([] : List Int).length 0) ([] : List Int))) 0 .no) 1 .no) 3 .no) 4 (.lu (.slice p4 (wt (S j).W).length c4) (wt (S j).W))) 5 (.lu (.slice p5 (it (S j).I).length c5) (it (S j).I))) N (a + 2) (b + 3)) := by
    have e1 : put (put (put (put (put (put (put (put (put (put X 0 (.lf (.slice p1 ([] : List Int).length c1) ([] : List Int))) 1 (.lf (.slice p2 ([] : List Int).length c2) ([] : List Int))) 3 (.im (.slice none ([] : List Int).length 0) ([] : List Int))) 0 .no) 1 .no) 3 .no) 4 (.lu (.slice p4 (wt (S j).W).length c4) (wt (S j).W))) 5 (.lu (.slice p5 (it (S j).I).length c5) (it (S j).I))) 1 (.lu (.slice pa2 (it (S j).I).length ca2) (it (S j).I))) 1 .no = (put (put (put (put (put (put (put (put X 0 (.lf (.slice p1 ([] : List Int).length c1) ([] : List Int))) 1 (.lf (.slice p2 ([] : List Int).length c2) ([] : List Int))) 3 (.im (.slice none ([] : List Int).length 0) ([] : List Int))) 0 .no) 1 .no) 3 .no) 4 (.lu (.slice p4 (wt (S j).W).length c4) (wt (S j).W))) 5 (.lu (.slice p5 (it (S j).I).length c5) (it (S j).I))) := by rw [put_put]; exact put_idem _ _ rfl
    rw [e1] at hA
    exact hA
  clear hA A2
  go_wp2_with fail
  refine (s_in (k := 1) C2.out hj (by omega) hN).mono ?_
  rintro e wa3 ⟨pa3, ca3, rfl, hA⟩
  have A3 : Hid (St w0 wa3 P q S S (put (put (put (put (put (put (put (put (put X 0 (.lf (.slice p1 ([] : List Int).length c1) ([] : List Int))) 1 (.lf (.slice p2 ([] : List Int).length c2) ([] : List Int))) 3 (.im (.slice none ([] : List Int).length 0) ([] : List Int))) 0 .no) 1 .no) 3 .no) 4 (.lu (.slice p4 (wt (S j).W).length c4) (wt (S j).W))) 5 (.lu (.slice p5 (it (S j).I).length c5) (it (S j).I))) 1 (.lu (.slice pa3 (it (S j).I).length ca3) (it (S j).I))) N (a + 2) (b + 3)) := hA
  clear hA C2
  go_wp2_with fail
  refine (line_at (k := 1) (k2 := 5) A3.out (by omega) rfl (by omega) rfl hil (by omega)).mono ?_
  rintro e wb3 ⟨rfl, hA⟩
  have C3 : Hid (St w0 wb3 P q S S (put (put (put (put (put (put (put (put X 0 (.lf (.slice p1 ([] : List Int).length c1) ([] : List Int))) 1 (.lf (.slice p2 ([] : List Int).length c2) ([] : List Int))) 3 (.im (.slice none ([] : List Int).length 0) ([] : List Int))) 0 .no) 1 .no) 3 .no) 4 (.lu (.slice p4 (wt (S j).W).length c4) (wt (S j).W))) 5 (.lu (.slice p5 (it (S j).I).length c5) (it (S j).I))) N (a + 2) (b + 4)) := by
    have e1 : put (put (put (put (put (put (put (put (put (put X 0 (.lf (.slice p1 ([] : List Int).length c1) ([] : List Int))) 1 (.lf (.slice p2 ([] : List Int).length c2) ([] : List Int))) 3 (.im (.slice none ([] : List Int).length 0) ([] : List Int))) 0 .no) 1 .no) 3 .no) 4 (.lu (.slice p4 (wt (S j).W).length c4) (wt (S j).W))) 5 (.lu (.slice p5 (it (S j).I).length c5) (it (S j).I))) 1 (.lu (.slice pa3 (it (S j).I).length ca3) (it (S j).I))) 1 .no = (put (put (put (put (put (put (put (put X 0 (.lf (.slice p1 ([] : List Int).length c1) ([] : List Int))) 1 (.lf (.slice p2 ([] : List Int).length c2) ([] : List Int))) 3 (.im (.slice none ([] : List Int).length 0) ([] : List Int))) 0 .no) 1 .no) 3 .no) 4 (.lu (.slice p4 (wt (S j).W).length c4) (wt (S j).W))) 5 (.lu (.slice p5 (it (S j).I).length c5) (it (S j).I))) := by rw [put_put]; exact put_idem _ _ rfl
    rw [e1] at hA
    exact hA
  clear hA A3
  go_wp2
  go_ret
  refine ⟨rfl, ?_⟩
  have hz := (C3.out.drop (k := 4) (by omega)).drop (k := 5) (by omega)
  have ez : put (put (put (put (put (put (put (put (put (put X 0 (.lf (.slice p1 ([] : List Int).length c1) ([] : List Int))) 1 (.lf (.slice p2 ([] : List Int).length c2) ([] : List Int))) 3 (.im (.slice none ([] : List Int).length 0) ([] : List Int))) 0 .no) 1 .no) 3 .no) 4 (.lu (.slice p4 (wt (S j).W).length c4) (wt (S j).W))) 5 (.lu (.slice p5 (it (S j).I).length c5) (it (S j).I))) 4 .no) 5 .no = X := by
    funext i
    simp only [put]
    by_cases i5 : i = 5
    · subst i5; simp [HX.out.2.2.2.2]
    by_cases i4 : i = 4
    · subst i4; simp [HX.out.2.2.2.1]
    by_cases i3 : i = 3
    · subst i3; simp [HX.out.2.2.1]
    by_cases i1 : i = 1
    · subst i1; simp [HX.out.2.1]
    by_cases i0 : i = 0
    · subst i0; simp [HX.out.1]
    simp [i5, i4, i3, i1, i0]
  rw [ez] at hz
  exact hz
end Go.Proofs.YtnbegddpgmejnaaGreat
namespace Go.Proofs.YtnbegddpgmejnaaGreat
open Go.RowKit

variable {w0 w w' : World} {P : Nat} {q : Nat → Nat} {S D : Nat → Ad} {X : Nat → Th} {N a b j k k2 : Nat}
set_option maxHeartbeats 8000000 in
set_option maxRecDepth 100000 in
theorem tells_cons (h : St w0 w P q S S X N a b) (hj : j < 2) (hN : (S j).next ≤ 1000) (ha : a ≤ 4000) (hb : b ≤ 4000) (hX : X 0 = .no ∧ X 1 = .no ∧ X 3 = .no ∧ X 4 = .no ∧ X 5 = .no) {t : Int} (ht : L.U64 t) {x : Int × List Int} {r : List (Int × List Int)} (hW : (S j).W = x :: r) :
    Calls Tryz.prog 10 #[qp P, .int .i64 j, .int .u64 t] w fun e w' => e = .returned (.bool true) ∧ St w0 w' P q S S X N (a + 2) (b + 4) := by
  have HX : Hid (X 0 = .no ∧ X 1 = .no ∧ X 3 = .no ∧ X 4 = .no ∧ X 5 = .no) := hX
  have ok := h.ok hj
  have e1 : (S j).fT = x.1 := by simp [Ad.fT, hW]
  have e2 : (S j).fF = x.2 := by simp [Ad.fF, hW]
  have e3 : (S j).isW = true := by simp [Ad.isW, hW]
  have hwl : (wt (S j).W).length ≤ 1000 := by have := ok.wlen; simp only [wt, List.length_map]; omega
  have hil : (it (S j).I).length ≤ 1000 := by have := ok.ilen; simp only [it, List.length_map]; omega
  have hfl : x.2.length ≤ 16 := by rw [← e2]; exact ok.flen
  have HF : Hid (∀ (w' : World) (X' : Nat → Th) (k : Nat), k < 6 → St w0 w' P q S S X' N a b → Calls Tryz.prog 36 #[qp (q j)] w' fun e w'' => ∃ p c, e = .returned (.tuple #[.int .u64 x.1, .slice p x.2.length c, .bool true]) ∧ St w0 w'' P q S S (put X' k (.lf (.slice p x.2.length c) x.2)) N a b) := by
    intro w' X' k hk h'
    have := s_first h' hj hk hN
    rw [e1, e2, e3] at this
    exact this
  have HD : Hid (St w0 w P q S S X N a b) := h
  have HW : Hid ((S j).W = x :: r) := hW
  have hwn : Hid ((S j).W.length = r.length + 1) := by show _ = _; rw [hW]; rfl
  obtain ⟨c0, c1⟩ := h.cells hj
  have d0 : w.drew.cell? ⟨P, j, none⟩ = some (qp (q j)) := c0
  have d1 : w.drew.cell? ⟨P, 2 + j, none⟩ = some (qp (q (j + 2))) := c1
  have i1 : (j : Int) < 2 := by omega
  clear h ok e1 e2 e3 hW hX
  go_enter Tryz.func10, Tryz.ntmps10
  go_wp2_with fail
  go_quiet (fail)
  have H0 : Hid (St w0 (w.drewN nq) P q S S X N a b) := HD.out.later (below_drawn nq)
  clear c0 c1 d0 d1 HD
  revert H0
  generalize w.drewN nq = wd
  intro H0
  go_wp2_with fail
  refine (HF.out _ _ 0 (by omega) H0.out).mono ?_
  rintro e w1 ⟨p1, c1, rfl, h1⟩
  have H1 : Hid (St w0 w1 P q S S (put X 0 (.lf (.slice p1 x.2.length c1) x.2)) N a b) := h1
  clear h1 H0
  go_wp2_with fail
  refine (HF.out _ _ 1 (by omega) H1.out).mono ?_
  rintro e w2 ⟨p2, c2, rfl, h2⟩
  have H2' : Hid (St w0 w2 P q S S (put (put X 0 (.lf (.slice p1 x.2.length c1) x.2)) 1 (.lf (.slice p2 x.2.length c2) x.2)) N a b) := h2
  clear h2 H1 HF
  obtain ⟨g, gc, yp, yc, y6, y0, y1, h3⟩ := d_first (k := 3) H2'.out hj (by omega) HW.out
  have H2 : Hid (St w0 w2 P q S S (put (put (put X 0 (.lf (.slice p1 x.2.length c1) x.2)) 1 (.lf (.slice p2 x.2.length c2) x.2)) 3 (.im (.slice yp x.2.length yc) x.2)) N a b) := h3
  clear h3 H2'
  have z6 : w2.drew.cell? ⟨q (j + 2), 6, none⟩ = some (.slice (some ⟨g, 0, none⟩) (S j).W.length gc) := y6
  have z0 : w2.drew.cell? ⟨g, 0, none⟩ = some (.int .u64 x.1) := y0
  have z1 : w2.drew.cell? ⟨g, 1, none⟩ = some (.slice yp x.2.length yc) := y1
  have i0 : (0 : Int) < ((S j).W.length : Int) := by have := hwn.out; omega
  have qa : (x.1 != x.1) = false := by simp
  obtain ⟨qb, qb'⟩ := bne_self_i ((S j).leftN t)
  obtain ⟨qc, qc'⟩ := bne_self_b ((S j).leftB t)
  obtain ⟨qd, qd'⟩ := bne_self_b (S j).fits
  obtain ⟨qe, qe'⟩ := bne_self_i (S j).used
  obtain ⟨qf, qf'⟩ := bne_self_i (S j).rsv
  go_wp2_with fail
  go_quiet (fail)
  have H2 : Hid (St w0 (w2.drewN nq) P q S S (put (put (put X 0 (.lf (.slice p1 x.2.length c1) x.2)) 1 (.lf (.slice p2 x.2.length c2) x.2)) 3 (.im (.slice yp x.2.length yc) x.2)) N a b) := H2.out.later (below_drawn nq)
  have x6 : (w2.drewN nq).cell? ⟨q (j + 2), 6, none⟩ = some (.slice (some ⟨g, 0, none⟩) (S j).W.length gc) := y6
  clear y6 y0 y1 z6 z0 z1
  revert H2 x6
  generalize w2.drewN nq = w2'
  intro H2 x6
  go_wp2_with fail
  refine (form_at (k := 0) (k2 := 3) H2.out (by omega) rfl (by omega) rfl hfl (by omega)).mono ?_
  rintro e w3 ⟨rfl, h3⟩
  have H3 : Hid (St w0 w3 P q S S (put (put (put (put X 0 (.lf (.slice p1 x.2.length c1) x.2)) 1 (.lf (.slice p2 x.2.length c2) x.2)) 3 (.im (.slice yp x.2.length yc) x.2)) 0 .no) N (a + 1) b) := h3
  clear h3 H2
  go_wp2_with fail
  refine (form_at (k := 1) (k2 := 3) H3.out (by omega) rfl (by omega) rfl hfl (by omega)).mono ?_
  rintro e w4 ⟨rfl, h4⟩
  have H4 : Hid (St w0 w4 P q S S (put (put (put (put (put (put X 0 (.lf (.slice p1 x.2.length c1) x.2)) 1 (.lf (.slice p2 x.2.length c2) x.2)) 3 (.im (.slice yp x.2.length yc) x.2)) 0 .no) 1 .no) 3 .no) N (a + 2) b) := h4.drop (k := 3) (by omega)
  clear h4 H3
  go_wp2_with fail
  refine (s_left H4.out hj ht).mono ?_
  rintro e w5 ⟨rfl, hw5⟩
  subst hw5
  go_wp2_with fail
  refine (d_left H4.out hj hN t).mono ?_
  rintro e w6 ⟨rfl, hw6⟩
  subst hw6
  go_wp2_with fail
  refine wp_region_noPanic ?_
  refine wp_region_held_drew (S := Bw w6.drew) (by kernel_rfl) (Below.refl _ _) (fun hHeld => ?_)
  have HE : Hid (St w0 w6.drew P q S S (put (put (put (put (put (put X 0 (.lf (.slice p1 x.2.length c1) x.2)) 1 (.lf (.slice p2 x.2.length c2) x.2)) 3 (.im (.slice yp x.2.length yc) x.2)) 0 .no) 1 .no) 3 .no) N (a + 2) b) := H4.out.later (below_drew w6)
  clear H4
  generalize w6.drew = we at *
  have B0 : Hid (Bw we we) := Below.refl _ _
  have HRU : Hid (∀ w', Bw we w' → w'.cell? ⟨q (j + 2), 8, none⟩ = some (.int .i64 (S j).used)) := fun w' hb => by
    obtain ⟨_, _, _, _, _, _, h8, _, _⟩ := d_cells (HE.out.later hb) hj
    exact h8
  refine wpAnyH_take (i := 0) (v := ?va40) (by simp; rfl) (by kernel_rfl) (by kernel_rfl) (by kernel_rfl) (fun _ _ _ h => h) (Or.inl ⟨by rfl, ?ya40⟩) hHeld ?ra40
  case ya40 => intro w hSw; clear hSw; go_simp; with_reducible rfl
  simp only [Act.put, List.setIfInBounds_toArray, List.set_cons_zero, List.set_cons_succ]
  refine wpAnyH_take (i := 1) (v := ?va41) (by simp; rfl) (by kernel_rfl) (by kernel_rfl) (by kernel_rfl) (fun _ _ _ h => h) (Or.inl ⟨by rfl, ?ya41⟩) hHeld ?ra41
  case ya41 => intro w hSw; clear hSw; go_simp; with_reducible rfl
  simp only [Act.put, List.setIfInBounds_toArray, List.set_cons_zero, List.set_cons_succ]
  refine wpAnyH_take (i := 2) (v := ?va42) (by simp; rfl) (by kernel_rfl) (by kernel_rfl) (by kernel_rfl) (fun _ _ _ h => h) (Or.inl ⟨by rfl, ?ya42⟩) hHeld ?ra42
  case ya42 => intro w hSw; clear hSw; go_simp; with_reducible rfl
  simp only [Act.put, List.setIfInBounds_toArray, List.set_cons_zero, List.set_cons_succ]
  refine wpAnyH_take (i := 3) (v := ?va43) (by simp; rfl) (by kernel_rfl) (by kernel_rfl) (by kernel_rfl) (fun _ _ _ h => h) (Or.inl ⟨by rfl, ?ya43⟩) hHeld ?ra43
  case ya43 => intro w hSw; clear hSw; go_simp; with_reducible rfl
  simp only [Act.put, List.setIfInBounds_toArray, List.set_cons_zero, List.set_cons_succ]
  refine wpAnyH_take (i := 4) (v := ?va44) (by simp; rfl) (by kernel_rfl) (by kernel_rfl) (by kernel_rfl) (fun _ _ _ h => h) (Or.inl ⟨by rfl, ?ya44⟩) hHeld ?ra44
  case ya44 => intro w hSw; clear hSw; go_simp; with_reducible rfl
  simp only [Act.put, List.setIfInBounds_toArray, List.set_cons_zero, List.set_cons_succ]
  refine wpAnyH_take (i := 5) (v := ?va45) (by simp; rfl) (by kernel_rfl) (by kernel_rfl) (by kernel_rfl) (fun _ _ _ h => h) (Or.inl ⟨by rfl, ?ya45⟩) hHeld ?ra45
  case ya45 => intro w hSw; clear hSw; go_simp; with_reducible rfl
  simp only [Act.put, List.setIfInBounds_toArray, List.set_cons_zero, List.set_cons_succ]
  refine wpAnyH_take (i := 6) (v := ?va46) (by simp; rfl) (by kernel_rfl) (by kernel_rfl) (by kernel_rfl) (fun _ _ _ h => h) (Or.inl ⟨by rfl, ?ya46⟩) hHeld ?ra46
  case ya46 => intro w hSw; clear hSw; go_simp; with_reducible rfl
  simp only [Act.put, List.setIfInBounds_toArray, List.set_cons_zero, List.set_cons_succ]
  refine wpAnyH_take (i := 7) (v := ?va47) (by simp; rfl) (by kernel_rfl) (by kernel_rfl) (by kernel_rfl) (fun _ _ _ h => h) (Or.inl ⟨by rfl, ?ya47⟩) hHeld ?ra47
  case ya47 => intro w hSw; clear hSw; go_simp; with_reducible rfl
  simp only [Act.put, List.setIfInBounds_toArray, List.set_cons_zero, List.set_cons_succ]
  refine wpAnyH_take (i := 8) (v := ?va48) (by simp; rfl) (by kernel_rfl) (by kernel_rfl) (by kernel_rfl) (fun _ _ _ h => h) (Or.inl ⟨by rfl, ?ya48⟩) hHeld ?ra48
  case ya48 => intro w hSw; clear hSw; go_simp; with_reducible rfl
  simp only [Act.put, List.setIfInBounds_toArray, List.set_cons_zero, List.set_cons_succ]
  refine wpAnyH_take (i := 9) (v := ?va49) (by simp; rfl) (by kernel_rfl) (by kernel_rfl) (by kernel_rfl) (fun _ _ _ h => h) (Or.inl ⟨by rfl, ?ya49⟩) hHeld ?ra49
  case ya49 => intro w hSw; clear hSw; go_simp; with_reducible rfl
  simp only [Act.put, List.setIfInBounds_toArray, List.set_cons_zero, List.set_cons_succ]
  refine wpAnyH_take (i := 11) (v := ?va50) (by simp; rfl) (by kernel_rfl) (by kernel_rfl) (by kernel_rfl) (fun _ _ _ h => h) (Or.inl ⟨by rfl, ?ya50⟩) hHeld ?ra50
  case ya50 => intro w hSw; clear hSw; go_simp; with_reducible rfl
  simp only [Act.put, List.setIfInBounds_toArray, List.set_cons_zero, List.set_cons_succ]
  refine wpAnyH_ready (rs := [10]) (by kernel_rfl) (by simp) ?_
  refine AllReadyH.cons (by simp; rfl) (fun Kc hKc => ?_) AllReadyH.nil
  go_simp
  refine (s_fits (HE.out.later B0.out) hj hN).mono ?_
  rintro e wk51 ⟨rfl, hb⟩
  have B51 : Hid (Bw we wk51) := below_then B0.out hb
  clear hb
  refine hKc.out _ _ B51.out (fun hHeld => ?_)
  clear hKc Kc B0
  refine wpAnyH_ready (rs := [12]) (by kernel_rfl) (by simp) ?_
  refine AllReadyH.cons (by simp; rfl) (fun Kc hKc => ?_) AllReadyH.nil
  go_simp
  refine (d_fits (HE.out.later B51.out) hj hN).mono ?_
  rintro e wk52 ⟨rfl, hb⟩
  have B52 : Hid (Bw we wk52) := below_then B51.out hb
  clear hb
  refine hKc.out _ _ B52.out (fun hHeld => ?_)
  clear hKc Kc B51
  refine wpAnyH_take (i := 13) (v := ?va53) (by simp; rfl) (by kernel_rfl) (by kernel_rfl) (by kernel_rfl) (fun _ _ _ h => h) (Or.inl ⟨by rfl, ?ya53⟩) hHeld ?ra53
  case ya53 => intro w hSw; clear hSw; go_simp; with_reducible rfl
  simp only [Act.put, List.setIfInBounds_toArray, List.set_cons_zero, List.set_cons_succ]
  refine wpAnyH_take (i := 14) (v := ?va54) (by simp; rfl) (by kernel_rfl) (by kernel_rfl) (by kernel_rfl) (fun _ _ _ h => h) (Or.inl ⟨by rfl, ?ya54⟩) hHeld ?ra54
  case ya54 => intro w hSw; clear hSw; go_simp; with_reducible rfl
  simp only [Act.put, List.setIfInBounds_toArray, List.set_cons_zero, List.set_cons_succ]
  refine wpAnyH_take (i := 15) (v := ?va55) (by simp; rfl) (by kernel_rfl) (by kernel_rfl) (by kernel_rfl) (fun _ _ _ h => h) (Or.inl ⟨by rfl, ?ya55⟩) hHeld ?ra55
  case ya55 => intro w hSw; clear hSw; go_simp; with_reducible rfl
  simp only [Act.put, List.setIfInBounds_toArray, List.set_cons_zero, List.set_cons_succ]
  refine wpAnyH_take (i := 16) (v := ?va56) (by simp; rfl) (by kernel_rfl) (by kernel_rfl) (by kernel_rfl) (fun _ _ _ h => h) (Or.inl ⟨by rfl, ?ya56⟩) hHeld ?ra56
  case ya56 => intro w hSw; clear hSw; go_simp; with_reducible rfl
  simp only [Act.put, List.setIfInBounds_toArray, List.set_cons_zero, List.set_cons_succ]
  refine wpAnyH_take (i := 18) (v := ?va57) (by simp; rfl) (by kernel_rfl) (by kernel_rfl) (by kernel_rfl) (fun _ _ _ h => h) (Or.inl ⟨by rfl, ?ya57⟩) hHeld ?ra57
  case ya57 => intro w hSw; clear hSw; go_simp; with_reducible rfl
  simp only [Act.put, List.setIfInBounds_toArray, List.set_cons_zero, List.set_cons_succ]
  refine wpAnyH_take (i := 19) (v := ?va58) (by simp; rfl) (by kernel_rfl) (by kernel_rfl) (by kernel_rfl) (fun _ _ _ h => h) (Or.inl ⟨by rfl, ?ya58⟩) hHeld ?ra58
  case ya58 => intro w hSw; clear hSw; go_simp; with_reducible rfl
  simp only [Act.put, List.setIfInBounds_toArray, List.set_cons_zero, List.set_cons_succ]
  refine wpAnyH_take (i := 20) (v := ?va59) (by simp; rfl) (by kernel_rfl) (by kernel_rfl) (by kernel_rfl) (fun _ _ _ h => h) (Or.inl ⟨by rfl, ?ya59⟩) hHeld ?ra59
  case ya59 => intro w hSw; clear hSw; go_simp; with_reducible rfl
  simp only [Act.put, List.setIfInBounds_toArray, List.set_cons_zero, List.set_cons_succ]
  refine wpAnyH_take (i := 21) (v := ?va60) (by simp; rfl) (by kernel_rfl) (by kernel_rfl) (by kernel_rfl) (fun _ _ _ h => h) (Or.inl ⟨by rfl, ?ya60⟩) hHeld ?ra60
  case ya60 => intro w hSw; have z := HRU.out w hSw; clear hSw; go_simp; with_reducible rfl
  simp only [Act.put, List.setIfInBounds_toArray, List.set_cons_zero, List.set_cons_succ]
  refine wpAnyH_ready (rs := [17]) (by kernel_rfl) (by simp) ?_
  refine AllReadyH.cons (by simp; rfl) (fun Kc hKc => ?_) AllReadyH.nil
  go_simp
  refine (s_used (HE.out.later B52.out) hj).mono ?_
  rintro e wq ⟨rfl, rfl⟩
  refine hKc.out _ _ B52.out (fun hHeld => ?_)
  clear hKc Kc
  refine wpAnyH_take (i := 22) (v := ?va62) (by simp; rfl) (by kernel_rfl) (by kernel_rfl) (by kernel_rfl) (fun _ _ _ h => h) (Or.inl ⟨by rfl, ?ya62⟩) hHeld ?ra62
  case ya62 => intro w hSw; clear hSw; go_simp; with_reducible rfl
  simp only [Act.put, List.setIfInBounds_toArray, List.set_cons_zero, List.set_cons_succ]
  refine wpAnyH_take (i := 23) (v := ?va63) (by simp; rfl) (by kernel_rfl) (by kernel_rfl) (by kernel_rfl) (fun _ _ _ h => h) (Or.inl ⟨by rfl, ?ya63⟩) hHeld ?ra63
  case ya63 => intro w hSw; clear hSw; go_simp; with_reducible rfl
  simp only [Act.put, List.setIfInBounds_toArray, List.set_cons_zero, List.set_cons_succ]
  refine wpAnyH_take (i := 24) (v := ?va64) (by simp; rfl) (by kernel_rfl) (by kernel_rfl) (by kernel_rfl) (fun _ _ _ h => h) (Or.inl ⟨by rfl, ?ya64⟩) hHeld ?ra64
  case ya64 => intro w hSw; clear hSw; go_simp; with_reducible rfl
  simp only [Act.put, List.setIfInBounds_toArray, List.set_cons_zero, List.set_cons_succ]
  refine wpAnyH_take (i := 25) (v := ?va65) (by simp; rfl) (by kernel_rfl) (by kernel_rfl) (by kernel_rfl) (fun _ _ _ h => h) (Or.inl ⟨by rfl, ?ya65⟩) hHeld ?ra65
  case ya65 => intro w hSw; clear hSw; go_simp; with_reducible rfl
  simp only [Act.put, List.setIfInBounds_toArray, List.set_cons_zero, List.set_cons_succ]
  refine wpAnyH_take (i := 27) (v := ?va66) (by simp; rfl) (by kernel_rfl) (by kernel_rfl) (by kernel_rfl) (fun _ _ _ h => h) (Or.inl ⟨by rfl, ?ya66⟩) hHeld ?ra66
  case ya66 => intro w hSw; clear hSw; go_simp; with_reducible rfl
  simp only [Act.put, List.setIfInBounds_toArray, List.set_cons_zero, List.set_cons_succ]
  refine wpAnyH_ready (rs := [26]) (by kernel_rfl) (by simp) ?_
  refine AllReadyH.cons (by simp; rfl) (fun Kc hKc => ?_) AllReadyH.nil
  go_simp
  refine (s_reserved (HE.out.later B52.out) hj).mono ?_
  rintro e wq ⟨rfl, rfl⟩
  refine hKc.out _ _ B52.out (fun hHeld => ?_)
  clear hKc Kc
  refine wpAnyH_ready (rs := [28]) (by kernel_rfl) (by simp) ?_
  refine AllReadyH.cons (by simp; rfl) (fun Kc hKc => ?_) AllReadyH.nil
  go_simp
  refine (d_reserved (HE.out.later B52.out) hj hN).mono ?_
  rintro e wk68 ⟨rfl, hb⟩
  have B68 : Hid (Bw we wk68) := below_then B52.out hb
  clear hb
  refine hKc.out _ _ B68.out (fun hHeld => ?_)
  clear hKc Kc B52
  refine wpAnyH_take (i := 29) (v := ?va69) (by simp; rfl) (by kernel_rfl) (by kernel_rfl) (by kernel_rfl) (fun _ _ _ h => h) (Or.inl ⟨by rfl, ?ya69⟩) hHeld ?ra69
  case ya69 => intro w hSw; clear hSw; go_simp; with_reducible rfl
  simp only [Act.put, List.setIfInBounds_toArray, List.set_cons_zero, List.set_cons_succ]
  refine wpAnyH_take (i := 30) (v := ?va70) (by simp; rfl) (by kernel_rfl) (by kernel_rfl) (by kernel_rfl) (fun _ _ _ h => h) (Or.inl ⟨by rfl, ?ya70⟩) hHeld ?ra70
  case ya70 => intro w hSw; clear hSw; go_simp; with_reducible rfl
  simp only [Act.put, List.setIfInBounds_toArray, List.set_cons_zero, List.set_cons_succ]
  refine wpAnyH_done (by kernel_rfl) (NoPanic.normal ?_) _
  have HT : Hid (St w0 wk68 P q S S (put (put (put (put (put (put X 0 (.lf (.slice p1 x.2.length c1) x.2)) 1 (.lf (.slice p2 x.2.length c2) x.2)) 3 (.im (.slice yp x.2.length yc) x.2)) 0 .no) 1 .no) 3 .no) N (a + 2) b) := HE.out.later B68.out
  clear hHeld HE B68 HRU
  obtain ⟨wt0, hwt⟩ : ∃ wt0, wt0 = wk68 := ⟨_, rfl⟩
  subst hwt
  go_wp2_with fail
  refine wp_region_noPanic ?_
  refine wp_region_held_drew (S := Bw wt0.drew) (by kernel_rfl) (Below.refl _ _) (fun hHeld => ?_)
  have HG : Hid (St w0 wt0.drew P q S S (put (put (put (put (put (put X 0 (.lf (.slice p1 x.2.length c1) x.2)) 1 (.lf (.slice p2 x.2.length c2) x.2)) 3 (.im (.slice yp x.2.length yc) x.2)) 0 .no) 1 .no) 3 .no) N (a + 2) b) := HT.out.later (below_drew wt0)
  clear HT
  generalize wt0.drew = wg at *
  obtain ⟨pw, pi, cw, ci, t6, t7, -, tk1, tk2⟩ := d_cells HG.out hj
  have HTC : Hid (∀ w', Bw wg w' → w'.cell? ⟨q (j + 2), 6, none⟩ = some (.slice pw (S j).W.length cw) ∧ w'.cell? ⟨q (j + 2), 7, none⟩ = some (.slice pi (S j).I.length ci)) := fun w' hb => ⟨(Below.cell hb (p := ⟨q (j + 2), 6, none⟩) (World.block_lt_of_cell? _ _ t6)).trans t6, (Below.cell hb (p := ⟨q (j + 2), 7, none⟩) (World.block_lt_of_cell? _ _ t7)).trans t7⟩
  have HTK : Hid ((∀ w', Bw wg w' → (S j).next ≤ 1000 → Calls Tryz.prog 40 #[.slice pw (S j).W.length cw] w' fun e w'' => ∃ u, e = .returned u ∧ MadeU w' w'' u (wt (S j).W)) ∧ (∀ w', Bw wg w' → (S j).next ≤ 1000 → Calls Tryz.prog 40 #[.slice pi (S j).I.length ci] w' fun e w'' => ∃ u, e = .returned u ∧ MadeU w' w'' u (it (S j).I))) := ⟨tk1, tk2⟩
  clear t6 t7 tk1 tk2
  refine wpAnyH_take (i := 0) (v := ?va71) (by simp; rfl) (by kernel_rfl) (by kernel_rfl) (by kernel_rfl) (fun _ _ _ h => h) (Or.inl ⟨by rfl, ?ya71⟩) hHeld ?ra71
  case ya71 => intro w hSw; clear hSw; go_simp; with_reducible rfl
  simp only [Act.put, List.setIfInBounds_toArray, List.set_cons_zero, List.set_cons_succ]
  refine wpAnyH_take (i := 1) (v := ?va72) (by simp; rfl) (by kernel_rfl) (by kernel_rfl) (by kernel_rfl) (fun _ _ _ h => h) (Or.inl ⟨by rfl, ?ya72⟩) hHeld ?ra72
  case ya72 => intro w hSw; clear hSw; go_simp; with_reducible rfl
  simp only [Act.put, List.setIfInBounds_toArray, List.set_cons_zero, List.set_cons_succ]
  refine wpAnyH_take (i := 2) (v := ?va73) (by simp; rfl) (by kernel_rfl) (by kernel_rfl) (by kernel_rfl) (fun _ _ _ h => h) (Or.inl ⟨by rfl, ?ya73⟩) hHeld ?ra73
  case ya73 => intro w hSw; clear hSw; go_simp; with_reducible rfl
  simp only [Act.put, List.setIfInBounds_toArray, List.set_cons_zero, List.set_cons_succ]
  refine wpAnyH_take (i := 3) (v := ?va74) (by simp; rfl) (by kernel_rfl) (by kernel_rfl) (by kernel_rfl) (fun _ _ _ h => h) (Or.inl ⟨by rfl, ?ya74⟩) hHeld ?ra74
  case ya74 => intro w hSw; have z := (HTC.out w hSw).1; clear hSw; go_simp; with_reducible rfl
  simp only [Act.put, List.setIfInBounds_toArray, List.set_cons_zero, List.set_cons_succ]
  refine wpAnyH_take (i := 5) (v := ?va75) (by simp; rfl) (by kernel_rfl) (by kernel_rfl) (by kernel_rfl) (fun _ _ _ h => h) (Or.inl ⟨by rfl, ?ya75⟩) hHeld ?ra75
  case ya75 => intro w hSw; clear hSw; go_simp; with_reducible rfl
  simp only [Act.put, List.setIfInBounds_toArray, List.set_cons_zero, List.set_cons_succ]
  refine wpAnyH_take (i := 6) (v := ?va76) (by simp; rfl) (by kernel_rfl) (by kernel_rfl) (by kernel_rfl) (fun _ _ _ h => h) (Or.inl ⟨by rfl, ?ya76⟩) hHeld ?ra76
  case ya76 => intro w hSw; clear hSw; go_simp; with_reducible rfl
  simp only [Act.put, List.setIfInBounds_toArray, List.set_cons_zero, List.set_cons_succ]
  refine wpAnyH_take (i := 7) (v := ?va77) (by simp; rfl) (by kernel_rfl) (by kernel_rfl) (by kernel_rfl) (fun _ _ _ h => h) (Or.inl ⟨by rfl, ?ya77⟩) hHeld ?ra77
  case ya77 => intro w hSw; clear hSw; go_simp; with_reducible rfl
  simp only [Act.put, List.setIfInBounds_toArray, List.set_cons_zero, List.set_cons_succ]
  refine wpAnyH_take (i := 8) (v := ?va78) (by simp; rfl) (by kernel_rfl) (by kernel_rfl) (by kernel_rfl) (fun _ _ _ h => h) (Or.inl ⟨by rfl, ?ya78⟩) hHeld ?ra78
  case ya78 => intro w hSw; have z := (HTC.out w hSw).2; clear hSw; go_simp; with_reducible rfl
  simp only [Act.put, List.setIfInBounds_toArray, List.set_cons_zero, List.set_cons_succ]
  refine wpAnyH_ready (rs := [4]) (by kernel_rfl) (by simp) ?_
  refine AllReadyH.cons (by simp; rfl) (fun Kc hKc => ?_) AllReadyH.nil
  go_simp
  refine (HTK.out.1 _ (Below.refl _ _) hN).mono ?_
  rintro e w4 ⟨u4, rfl, hm⟩
  obtain ⟨p4, c4, e4⟩ := own_shape hm.own
  subst e4
  have G4 : Hid (St w0 w4 P q S S (put (put (put (put (put (put (put X 0 (.lf (.slice p1 x.2.length c1) x.2)) 1 (.lf (.slice p2 x.2.length c2) x.2)) 3 (.im (.slice yp x.2.length yc) x.2)) 0 .no) 1 .no) 3 .no) 4 (.lu (.slice p4 (wt (S j).W).length c4) (wt (S j).W))) N (a + 2) b) := HG.out.fresh hm.below (by omega) (fun _ => own_zero hm.own) (fun b hb => (hm.own.lt b hb).1)
  have B4 : Hid (Bw wg w4) := hm.below
  clear hm
  refine hKc.out _ _ B4.out (fun hHeld => ?_)
  clear hKc Kc
  refine wpAnyH_ready (rs := [9]) (by kernel_rfl) (by simp) ?_
  refine AllReadyH.cons (by simp; rfl) (fun Kc hKc => ?_) AllReadyH.nil
  go_simp
  refine (HTK.out.2 _ B4.out hN).mono ?_
  rintro e w5 ⟨u5, rfl, hm⟩
  obtain ⟨p5, c5, e5⟩ := own_shape hm.own
  subst e5
  have G5 : Hid (St w0 w5 P q S S (put (put (put (put (put (put (put (put X 0 (.lf (.slice p1 x.2.length c1) x.2)) 1 (.lf (.slice p2 x.2.length c2) x.2)) 3 (.im (.slice yp x.2.length yc) x.2)) 0 .no) 1 .no) 3 .no) 4 (.lu (.slice p4 (wt (S j).W).length c4) (wt (S j).W))) 5 (.lu (.slice p5 (it (S j).I).length c5) (it (S j).I))) N (a + 2) b) := G4.out.fresh hm.below (by omega) (fun _ => own_zero hm.own) (fun b hb => (hm.own.lt b hb).1)
  have B5 : Hid (Bw wg w5) := below_then B4.out hm.below
  clear hm
  refine hKc.out _ _ B5.out (fun hHeld => ?_)
  clear hKc Kc B4 G4 HG
  refine wpAnyH_ready (rs := [10]) (by kernel_rfl) (by simp) ?_
  refine AllReadyH.cons (by simp; rfl) (fun Kc hKc => ?_) AllReadyH.nil
  go_simp
  refine hKc.out _ _ B5.out (fun hHeld => ?_)
  clear hKc Kc
  refine wpAnyH_ready (rs := [11]) (by kernel_rfl) (by simp) ?_
  refine AllReadyH.cons (by simp; rfl) (fun Kc hKc => ?_) AllReadyH.nil
  go_simp
  refine hKc.out _ _ B5.out (fun hHeld => ?_)
  clear hKc Kc
  refine wpAnyH_done (by kernel_rfl) (NoPanic.normal ?_) _
  clear hHeld B5 HTC HTK
  go_wp2_with fail
  refine (s_waiting (k := 1) G5.out hj (by omega) hN).mono ?_
  rintro e wa0 ⟨pa0, ca0, rfl, hA⟩
  have A0 : Hid (St w0 wa0 P q S S (put (put (put (put (put (put (put (put (put X 0 (.lf (.slice p1 x.2.length c1) x.2)) 1 (.lf (.slice p2 x.2.length c2) x.2)) 3 (.im (.slice yp x.2.length yc) x.2)) 0 .no) 1 .no) 3 .no) 4 (.lu (.slice p4 (wt (S j).W).length c4) (wt (S j).W))) 5 (.lu (.slice p5 (it (S j).I).length c5) (it (S j).I))) 1 (.lu (.slice pa0 (wt (S j).W).length ca0) (wt (S j).W))) N (a + 2) (b + 0)) := hA
  clear hA G5
  go_wp2_with fail
  refine (line_at (k := 1) (k2 := 4) A0.out (by omega) rfl (by omega) rfl hwl (by omega)).mono ?_
  rintro e wb0 ⟨rfl, hA⟩
  have C0 : Hid (St w0 wb0 P q S S (put (put (put (put (put (put (put (put X 0 (.lf (.slice p1 x.2.length c1) x.2)) 1 (.lf (.slice p2 x.2.length c2) x.2)) 3 (.im (.slice yp x.2.length yc) x.2)) 0 .no) 1 .no) 3 .no) 4 (.lu (.slice p4 (wt (S j).W).length c4) (wt (S j).W))) 5 (.lu (.slice p5 (it (S j).I).length c5) (it (S j).I))) N (a + 2) (b + 1)) := by
    have e1 : put (put (put (put (put (put (put (put (put (put X 0 (.lf (.slice p1 x.2.length c1) x.2)) 1 (.lf (.slice p2 x.2.length c2) x.2)) 3 (.im (.slice yp x.2.length yc) x.2)) 0 .no) 1 .no) 3 .no) 4 (.lu (.slice p4 (wt (S j).W).length c4) (wt (S j).W))) 5 (.lu (.slice p5 (it (S j).I).length c5) (it (S j).I))) 1 (.lu (.slice pa0 (wt (S j).W).length ca0) (wt (S j).W))) 1 .no = (put (put (put (put (put (put (put (put X 0 (.lf (.slice p1 x.2.length c1) x.2)) 1 (.lf (.slice p2 x.2.length c2) x.2)) 3 (.im (.slice yp x.2.length yc) x.2)) 0 .no) 1 .no) 3 .no) 4 (.lu (.slice p4 (wt (S j).W).length c4) (wt (S j).W))) 5 (.lu (.slice p5 (it (S j).I).length c5) (it (S j).I))) := by rw [put_put]; exact put_idem _ _ rfl
    rw [e1] at hA
    exact hA
  clear hA A0
  go_wp2_with fail
  refine (s_waiting (k := 1) C0.out hj (by omega) hN).mono ?_
  rintro e wa1 ⟨pa1, ca1, rfl, hA⟩
  have A1 : Hid (St w0 wa1 P q S S (put (put (put (put (put (put (put (put (put X 0 (.lf (.slice p1 x.2.length c1) x.2)) 1 (.lf (.slice p2 x.2.length c2) x.2)) 3 (.im (.slice yp x.2.length yc) x.2)) 0 .no) 1 .no) 3 .no) 4 (.lu (.slice p4 (wt (S j).W).length c4) (wt (S j).W))) 5 (.lu (.slice p5 (it (S j).I).length c5) (it (S j).I))) 1 (.lu (.slice pa1 (wt (S j).W).length ca1) (wt (S j).W))) N (a + 2) (b + 1)) := hA
  clear hA C0
  go_wp2_with fail
  refine (line_at (k := 1) (k2 := 4) A1.out (by omega) rfl (by omega) rfl hwl (by omega)).mono ?_
  rintro e wb1 ⟨rfl, hA⟩
  have C1 : Hid (St w0 wb1 P q S S (put (put (put (put (put (put (put (put X 0 (.lf (.slice p1 x.2.length c1) x.2)) 1 (.lf (.slice p2 x.2.length c2) x.2)) 3 (.im (.slice yp x.2.length yc) x.2)) 0 .no) 1 .no) 3 .no) 4 (.lu (.slice p4 (wt (S j).W).length c4) (wt (S j).W))) 5 (.lu (.slice p5 (it (S j).I).length c5) (it (S j).I))) N (a + 2) (b + 2)) := by
    have e1 : put (put (put (put (put (put (put (put (put (put X 0 (.lf (.slice p1 x.2.length c1) x.2)) 1 (.lf (.slice p2 x.2.length c2) x.2)) 3 (.im (.slice yp x.2.length yc) x.2)) 0 .no) 1 .no) 3 .no) 4 (.lu (.slice p4 (wt (S j).W).length c4) (wt (S j).W))) 5 (.lu (.slice p5 (it (S j).I).length c5) (it (S j).I))) 1 (.lu (.slice pa1 (wt (S j).W).length ca1) (wt (S j).W))) 1 .no = (put (put (put (put (put (put (put (put X 0 (.lf (.slice p1 x.2.length c1) x.2)) 1 (.lf (.slice p2 x.2.length c2) x.2)) 3 (.im (.slice yp x.2.length yc) x.2)) 0 .no) 1 .no) 3 .no) 4 (.lu (.slice p4 (wt (S j).W).length c4) (wt (S j).W))) 5 (.lu (.slice p5 (it (S j).I).length c5) (it (S j).I))) := by rw [put_put]; exact put_idem _ _ rfl
    rw [e1] at hA
    exact hA
  clear hA A1
  go_wp2_with fail
  refine (s_in (k := 1) C1.out hj (by omega) hN).mono ?_
  rintro e wa2 ⟨pa2, ca2, rfl, hA⟩
  have A2 : Hid (St w0 wa2 P q S S (put (put (put (put (put (put (put (put (put X 0 (.lf (.slice p1 x.2.length c1) x.2)) 1 (.lf (.slice p2 x.2.length c2) x.2)) 3 (.im (.slice yp x.2.length yc) x.2)) 0 .no) 1 .no) 3 .no) 4 (.lu (.slice p4 (wt (S j).W).length c4) (wt (S j).W))) 5 (.lu (.slice p5 (it (S j).I).length c5) (it (S j).I))) 1 (.lu (.slice pa2 (it (S j).I).length ca2) (it (S j).I))) N (a + 2) (b + 2)) := hA
  clear hA C1
  go_wp2_with fail
  refine (line_at (k := 1) (k2 := 5) A2.out (by omega) rfl (by omega) rfl hil (by omega)).mono ?_
  rintro e wb2 ⟨rfl, hA⟩
  have C2 : Hid (St w0 wb2 P q S S (put (put (put (put (put (put (put (put X 0 (.lf (.slice p1 x.2.length c1) x.2)) 1 (.lf (.slice p2 x.2.length c2) x.2)) 3 (.im (.slice yp x.2.length yc) x.2)) 0 .no) 1 .no) 3 .no) 4 (.lu (.slice p4 (wt (S j).W).length c4) (wt (S j).W))) 5 (.lu (.slice p5 (it (S j).I).length c5) (it (S j).I))) N (a + 2) (b + 3)) := by
    have e1 : put (put (put (put (put (put (put (put (put (put X 0 (.lf (.slice p1 x.2.length c1) x.2)) 1 (.lf (.slice p2 x.2.length c2) x.2)) 3 (.im (.slice yp x.2.length yc) x.2)) 0 .no) 1 .no) 3 .no) 4 (.lu (.slice p4 (wt (S j).W).length c4) (wt (S j).W))) 5 (.lu (.slice p5 (it (S j).I).length c5) (it (S j).I))) 1 (.lu (.slice pa2 (it (S j).I).length ca2) (it (S j).I))) 1 .no = (put (put (put (put (put (put (put (put X 0 (.lf (.slice p1 x.2.length c1) x.2)) 1 (.lf (.slice p2 x.2.length c2) x.2)) 3 (.im (.slice yp x.2.length yc) x.2)) 0 .no) 1 .no) 3 .no) 4 (.lu (.slice p4 (wt (S j).W).length c4) (wt (S j).W))) 5 (.lu (.slice p5 (it (S j).I).length c5) (it (S j).I))) := by rw [put_put]; exact put_idem _ _ rfl
    rw [e1] at hA
    exact hA
  clear hA A2
  go_wp2_with fail
  refine (s_in (k := 1) C2.out hj (by omega) hN).mono ?_
  rintro e wa3 ⟨pa3, ca3, rfl, hA⟩
  have A3 : Hid (St w0 wa3 P q S S (put (put (put (put (put (put (put (put (put X 0 (.lf (.slice p1 x.2.length c1) x.2)) 1 (.lf (.slice p2 x.2.length c2) x.2)) 3 (.im (.slice yp x.2.length yc) x.2)) 0 .no) 1 .no) 3 .no) 4 (.lu (.slice p4 (wt (S j).W).length c4) (wt (S j).W))) 5 (.lu (.slice p5 (it (S j).I).length c5) (it (S j).I))) 1 (.lu (.slice pa3 (it (S j).I).length ca3) (it (S j).I))) N (a + 2) (b + 3)) := hA
  clear hA C2
  go_wp2_with fail
  refine (line_at (k := 1) (k2 := 5) A3.out (by omega) rfl (by omega) rfl hil (by omega)).mono ?_
  rintro e wb3 ⟨rfl, hA⟩
  have C3 : Hid (St w0 wb3 P q S S (put (put (put (put (put (put (put (put X 0 (.lf (.slice p1 x.2.length c1) x.2)) 1 (.lf (.slice p2 x.2.length c2) x.2)) 3 (.im (.slice yp x.2.length yc) x.2)) 0 .no) 1 .no) 3 .no) 4 (.lu (.slice p4 (wt (S j).W).length c4) (wt (S j).W))) 5 (.lu (.slice p5 (it (S j).I).length c5) (it (S j).I))) N (a + 2) (b + 4)) := by
    have e1 : put (put (put (put (put (put (put (put (put (put X 0 (.lf (.slice p1 x.2.length c1) x.2)) 1 (.lf (.slice p2 x.2.length c2) x.2)) 3 (.im (.slice yp x.2.length yc) x.2)) 0 .no) 1 .no) 3 .no) 4 (.lu (.slice p4 (wt (S j).W).length c4) (wt (S j).W))) 5 (.lu (.slice p5 (it (S j).I).length c5) (it (S j).I))) 1 (.lu (.slice pa3 (it (S j).I).length ca3) (it (S j).I))) 1 .no = (put (put (put (put (put (put (put (put X 0 (.lf (.slice p1 x.2.length c1) x.2)) 1 (.lf (.slice p2 x.2.length c2) x.2)) 3 (.im (.slice yp x.2.length yc) x.2)) 0 .no) 1 .no) 3 .no) 4 (.lu (.slice p4 (wt (S j).W).length c4) (wt (S j).W))) 5 (.lu (.slice p5 (it (S j).I).length c5) (it (S j).I))) := by rw [put_put]; exact put_idem _ _ rfl
    rw [e1] at hA
    exact hA
  clear hA A3
  go_wp2
  go_ret
  refine ⟨rfl, ?_⟩
  have hz := (C3.out.drop (k := 4) (by omega)).drop (k := 5) (by omega)
  have ez : put (put (put (put (put (put (put (put (put (put X 0 (.lf (.slice p1 x.2.length c1) x.2)) 1 (.lf (.slice p2 x.2.length c2) x.2)) 3 (.im (.slice yp x.2.length yc) x.2)) 0 .no) 1 .no) 3 .no) 4 (.lu (.slice p4 (wt (S j).W).length c4) (wt (S j).W))) 5 (.lu (.slice p5 (it (S j).I).length c5) (it (S j).I))) 4 .no) 5 .no = X := by
    funext i
    simp only [put]
    by_cases i5 : i = 5
    · subst i5; simp [HX.out.2.2.2.2]
    by_cases i4 : i = 4
    · subst i4; simp [HX.out.2.2.2.1]
    by_cases i3 : i = 3
    · subst i3; simp [HX.out.2.2.1]
    by_cases i1 : i = 1
    · subst i1; simp [HX.out.2.1]
    by_cases i0 : i = 0
    · subst i0; simp [HX.out.1]
    simp [i5, i4, i3, i1, i0]
  rw [ez] at hz
  exact hz

theorem tells_at (h : St w0 w P q S S X N a b) (hj : j < 2) (hN : (S j).next ≤ 1000) (ha : a ≤ 4000) (hb : b ≤ 4000) (hX : X 0 = .no ∧ X 1 = .no ∧ X 3 = .no ∧ X 4 = .no ∧ X 5 = .no) {t : Int} (ht : L.U64 t) :
    Calls Tryz.prog 10 #[qp P, .int .i64 j, .int .u64 t] w fun e w' => e = .returned (.bool true) ∧ St w0 w' P q S S X N (a + 2) (b + 4) := by
  cases hW : (S j).W with
  | nil => exact tells_nil h hj hN ha hb hX ht hW
  | cons x r => exact tells_cons h hj hN ha hb hX ht hW
end Go.Proofs.YtnbegddpgmejnaaGreat
namespace Go.Proofs.YtnbegddpgmejnaaGreat
open Go.RowKit

variable {w0 w w' : World} {P : Nat} {q : Nat → Nat} {S D : Nat → Ad} {X : Nat → Th} {N a b j k k2 : Nat}

/-- one number of a loose list is written over -/
theorem St.setLoose {g n c : Nat} {zs : List Int} (h : St w0 w P q S D X N a b) (hk : k < 6) (hX : X k = .lf (.slice (some ⟨g, 0, none⟩) n c) zs) (hn : n = zs.length) (i : Nat) (y : Int) : St w0 (w.setCell ⟨g, i, none⟩ (.int .i64 y)) P q S D (put X k (.lf (.slice (some ⟨g, 0, none⟩) n c) (zs.set i y))) N a b := by
  subst hn
  obtain ⟨T, G, hp, hs⟩ := h
  have ek : T (8 + k) = .lf (.slice (some ⟨g, 0, none⟩) zs.length c) zs := by rw [hs.x k hk]; exact hX
  have hf : Frm w (.slice (some ⟨g, 0, none⟩) zs.length c) zs := by have := hp.fam.at' (8 + k) (by omega); rw [ek] at this; exact this
  refine ⟨_, G, hp.turn (i := 8 + k) (t := .lf (.slice (some ⟨g, 0, none⟩) zs.length c) (zs.set i y)) (S := (· = g)) (by omega) (by rw [ek]; rfl) ?_ (Kept.setCell g i _) (fun b hb => by rw [ek]; show some g = some b; rw [hb]) (fun b hb => by rw [ek]; exact .inl hb) (fun _ hg => hg) (fun _ hg => .inl hg), hs.loose hk⟩
  have := own_set hf (g := g) rfl i (.int .i64 y)
  show World.ownsRow _ _ _ _ _ _ _
  rw [List.length_set, B.I64, List.map_set]
  exact this
theorem pre_in {g n c : Nat} {ys zs : List Int} (h : Frm w (.slice (some ⟨g, 0, none⟩) n c) (ys ++ zs)) : B.IIn w (some ⟨g, 0, none⟩) ys.length ys := by
  refine ⟨rfl, fun _ => ⟨g, 0, rfl, fun i hi => ?_⟩⟩
  have h1 := World.ownsRow.cells h (g := g) rfl i (.int .i64 (ys.getD i 0)) (by rw [B.I64, List.map_append, List.getElem?_append_left (by simpa using hi), List.getElem?_map]; simp [List.getD, List.getElem?_eq_getElem hi])
  rw [Go.WideShapes.add_plain] at h1
  exact h1
theorem build2 (w : World) (x y : Int) : (Instr.buildSlice 43 2 #[(0, .int .i64 x), (1, .int .i64 y)]).run Tryz.prog w = .ok (.slice (some ⟨w.heap.size, 0, none⟩) 2 2) (w.alloc (.cells #[.int .i64 x, .int .i64 y] 3)) := by kernel_rfl
theorem own_two (w : World) (x y : Int) : (w.alloc (.cells #[.int .i64 x, .int .i64 y] 3)).ownsRow 0 3 1 (.slice (some ⟨w.heap.size, 0, none⟩) 2 2) 2 [.int .i64 x, .int .i64 y] :=
  ⟨rfl, .inr ⟨w.heap.size, 2, _, rfl, Nat.zero_le _, heap_alloc_new w _, Nat.le_refl _, by decide, rfl, rfl⟩⟩
theorem beg_one {v1 : Value} {w1 : World} {mm : Nat} {ys : List Int} (ho : w1.ownsRow w.heap.size 3 1 v1 (0 + mm) ([] ++ B.I64 ys)) (hg : (w.alloc (.cells #[] 3)).grownBy w1 (Value.slice (some ⟨w.heap.size, 0, none⟩) 0 0).ownBlock) : FR w w1 0 3 1 v1 mm (B.I64 ys) := by
  rw [Nat.zero_add, List.nil_append] at ho
  refine ⟨own_zero ho, (kept_grown hg).into (below_alloc w _) (fun b hb e => ?_) (Nat.le_refl _), fun g hg => (ho.lt g hg).1⟩
  simp [Value.ownBlock] at e
  omega
theorem mine_frm {v : Value} {mm : Nat} {ys : List Int} (hl : ys.length = mm) (h : w.ownsRow 0 3 1 v (mm + 2) (B.I64 ys ++ [.int .i64 (-7), .int .i64 (-8)])) : Frm w v (ys ++ [-7, -8]) := by
  show World.ownsRow _ _ _ _ _ _ _
  rw [List.length_append, hl, B.I64, List.map_append]
  exact h
theorem mine_end {g mm c : Nat} {ys : List Int} (hl : ys.length = mm) (h : Frm w (.slice (some ⟨g, 0, none⟩) (mm + 2) c) (ys ++ [-7, -8])) : w.cell? ⟨g, mm, none⟩ = some (.int .i64 (-7)) ∧ w.cell? ⟨g, mm + 1, none⟩ = some (.int .i64 (-8)) := by
  have h1 := World.ownsRow.cells h (g := g) rfl mm (.int .i64 (-7)) (by simp [B.I64, ← hl])
  have h2 := World.ownsRow.cells h (g := g) rfl (mm + 1) (.int .i64 (-8)) (by simp [B.I64, ← hl])
  rw [Go.WideShapes.add_plain, Nat.zero_add] at h1 h2
  exact ⟨h1, h2⟩
theorem same_ii {p1 p2 : Option Addr} {n c1 c2 : Nat} {ys : List Int} (h1 : B.IIn w p1 n ys) (h2 : B.IIn w p2 n ys) (hn : n ≤ 1000) : Calls Tryz.prog 17 #[.slice p1 n c1, .slice p2 n c2] w fun e w' => e = .returned (.bool true) ∧ ∃ m, w' = w.drewN m := by
  have := sameF_is p1 p2 n c1 n c2 ys ys w h1 h2 (by omega)
  rw [decide_eq_true (rfl : ys = ys)] at this
  exact this
set_option maxHeartbeats 8000000 in
set_option maxRecDepth 100000 in
theorem begins_at {p : Option Addr} {m c : Nat} {xs : List Int} (h : St w0 w P q S S X N a b) (hj : j < 2) (hN : N < 9000) (hx : (S j).next ≤ 900) (ha : a ≤ 4000) (hX : X 0 = .no ∧ X 3 = .no ∧ X 4 = .no) (hI : ∀ w', Below w0.heap.size w0 w' → B.IIn w' p m xs) (hmc : m ≤ c) (hpc : p = none → c = 0) (hmm : m ≤ 9223372036854775807) :
    Calls Tryz.prog 27 #[qp P, .int .i64 j, .slice p m c] w fun e w' => e = .returned (.bool true) ∧ St w0 w' P q (put S j ((S j).begS (xs.take 100))) (put S j ((S j).begS (xs.take 100))) X (N + 2) (a + 1) b := by
  obtain ⟨i0, hi, hz0, hz1, hz2⟩ := info_parts B.info3
  obtain ⟨mm, hmn⟩ : ∃ mm : Nat, mm = min m 100 := ⟨_, rfl⟩
  have hmin : min (m : Int) 100 = (mm : Int) := by omega
  have m1 : mm ≤ 100 := by omega
  have m2 : mm ≤ c := by omega
  have m3 : mm ≤ m := by omega
  have HYL : Hid ((xs.take 100).length = mm) := by show _ = _; rw [List.length_take, (hI _ h.below).len]; omega
  have HI : Hid (∀ w', Below w0.heap.size w0 w' → B.IIn w' p mm (xs.take 100)) := fun w' hb => by
    have h1 := hI w' hb
    refine ⟨HYL.out, fun h0 => ?_⟩
    obtain ⟨b, o, e, hc⟩ := h1.cells (by omega)
    refine ⟨b, o, e, fun i hi => ?_⟩
    rw [hc i (by omega)]
    simp [List.getD, show i < 100 by omega]
  have HX : Hid (X 0 = .no ∧ X 3 = .no ∧ X 4 = .no) := hX
  have H0 : Hid (St w0 w P q S S X N a b) := h
  have HFL : Hid (((S j).begF (xs.take 100)).length ≤ 16) := B.formS_len _ _ _
  have i1 : (j : Int) < 2 := by omega
  have i2 : (mm : Int) ≤ (c : Int) := by omega
  have i3 : (0 : Int) ≤ (mm : Int) := by omega
  clear h hmn hX hI
  generalize xs.take 100 = ys at *
  have F0 : Hid ((w.alloc (.cells #[] 3)).ownsRow w.heap.size 3 1 (.slice (some ⟨w.heap.size, 0, none⟩) 0 0) 0 []) := own_empty w (Nat.le_refl _)
  have I1 : Hid (B.IIn (w.alloc (.cells #[] 3)) p mm ys) := HI.out _ (below_then H0.out.below (below_alloc w _))
  go_enter Tryz.func27, Tryz.ntmps27
  go_upto_region 3 with (at_builtin; first
    | (refine B.wpList_append_any _ rfl (.tmp 21) (.tmp 22) 43 rfl w.heap.size 3 i0 (.int .i64 0) 8 Tryz.underlying43 hi hz0 hz1 hz2 rfl (.slice (some ⟨w.heap.size, 0, none⟩) 0 0) 0 [] rfl F0.out p mm c (B.I64 ys) rfl hpc m2 (by rw [B.I64_length]; exact HYL.out) I1.out.newsAny (B.ones_i64 ys) (by unfold maxLen; omega) (by omega) (by simp) ?_; intro v1 w1 ho hg; have F1 : Hid (FR w w1 0 3 1 v1 mm (B.I64 ys)) := beg_one ho hg; clear ho hg; obtain ⟨p1, c1, rfl⟩ := own_shape F1.out.own)
    | (refine wpList_own_any (v := .slice p1 mm c1) (u := .slice (some ⟨w1.heap.size, 0, none⟩) 2 2) (n := mm) (m := 2) (base := 0) (base' := 0) rfl (.tmp 23) (.tmp 24) elI rfl rfl (F1.out.later (below_alloc w1 _)).own rfl (own_two w1 (-7) (-8)) (by intro z hz; simp only [List.mem_cons, List.not_mem_nil, or_false] at hz; rcases hz with rfl | rfl <;> rfl) (by omega) (Nat.zero_le _) ?_; intro v2 w2 ho hk hv; have F2 : Hid (FR w w2 0 3 1 v2 (mm + 2) (B.I64 ys ++ [.int .i64 (-7), .int .i64 (-8)])) := (F1.out.later (below_alloc w1 _)).app ho hk hv; clear ho hk hv; obtain ⟨p2, c2, e2, hc2, hg2⟩ := own_form F2.out.own; obtain ⟨g, rfl⟩ := hg2 (by omega); subst e2; have i4 : (mm : Int) ≤ (c2 : Int) := (by omega)))
  have H2 : Hid (St w0 w2 P q S S (put X 4 (.lf (.slice (some ⟨g, 0, none⟩) (mm + 2) c2) (ys ++ [-7, -8]))) N a b) := H0.out.fresh F2.out.below (by omega) (fun _ => mine_frm HYL.out F2.out.own) (fun b hb => F2.out.new b hb)
  clear F0 F1 F2 H0 I1
  have I2 : Hid (B.IIn w2 (some ⟨g, 0, none⟩) mm ys) := by have h1 := pre_in (H2.out.frm (k := 4) (by omega) rfl); rw [HYL.out] at h1; exact h1
  have c0 := (H2.out.cells hj).1
  go_wp2_with fail
  refine (s_begin (k := 0) H2.out hj (by omega) (by omega) (by omega) I2.out (by omega)).mono ?_
  rintro e w3 ⟨p3, c3, rfl, h3⟩
  have H3 : Hid (St w0 w3 P q (put S j ((S j).begS ys)) S (put (put X 4 (.lf (.slice (some ⟨g, 0, none⟩) (mm + 2) c2) (ys ++ [-7, -8]))) 0 (.lf (.slice p3 ((S j).begF ys).length c3) ((S j).begF ys))) (N + 2) a b) := h3
  clear h3 H2 I2 c0
  have c1 := (H3.out.cells hj).2
  have I3 : Hid (B.IIn w3 p mm ys) := HI.out _ H3.out.below
  go_wp2_with fail
  refine (d_begin (k := 3) H3.out hj (by omega) (by omega) I3.out (by omega)).mono ?_
  rintro e w4 ⟨p4, c4, rfl, h4⟩
  have H4 : Hid (St w0 w4 P q (put S j ((S j).begS ys)) (put S j ((S j).begS ys)) (put (put (put X 4 (.lf (.slice (some ⟨g, 0, none⟩) (mm + 2) c2) (ys ++ [-7, -8]))) 0 (.lf (.slice p3 ((S j).begF ys).length c3) ((S j).begF ys))) 3 (.im (.slice p4 ((S j).begF ys).length c4) ((S j).begF ys))) (N + 2) a b) := h4
  clear h4 H3 I3 c1
  have i5 : (mm : Int) + 2 ≤ (c2 : Int) := by omega
  have i6 : (0 : Int) ≤ (mm : Int) + 2 := by omega
  have i7 : ((mm : Int) + 2).toNat = mm + 2 := by omega
  obtain ⟨qa, qa'⟩ := bne_self_i ((S j).begT ys)
  obtain ⟨qb, qb'⟩ := bne_self_i ((S j).begE ys)
  go_wp2_with fail
  refine (form_at (k := 0) (k2 := 3) H4.out (by omega) rfl (by omega) rfl HFL.out (by omega)).mono ?_
  rintro e w5 ⟨rfl, h5⟩
  have H5 : Hid (St w0 w5 P q (put S j ((S j).begS ys)) (put S j ((S j).begS ys)) (put X 4 (.lf (.slice (some ⟨g, 0, none⟩) (mm + 2) c2) (ys ++ [-7, -8]))) (N + 2) (a + 1) b) := by
    have h6 := h5.drop (k := 3) (by omega)
    have ez : put (put (put (put (put X 4 (.lf (.slice (some ⟨g, 0, none⟩) (mm + 2) c2) (ys ++ [-7, -8]))) 0 (.lf (.slice p3 ((S j).begF ys).length c3) ((S j).begF ys))) 3 (.im (.slice p4 ((S j).begF ys).length c4) ((S j).begF ys))) 0 .no) 3 .no = put X 4 (.lf (.slice (some ⟨g, 0, none⟩) (mm + 2) c2) (ys ++ [-7, -8])) := by
      funext i
      simp only [put]
      by_cases i3 : i = 3
      · subst i3; simp [HX.out.2.1]
      by_cases i0 : i = 0
      · subst i0; simp [HX.out.1]
      simp [i3, i0]
    rw [ez] at h6
    exact h6
  clear h5 H4
  have I5 : Hid (B.IIn w5 (some ⟨g, 0, none⟩) mm ys ∧ B.IIn w5 p mm ys) := ⟨by have h1 := pre_in (H5.out.frm (k := 4) (by omega) rfl); rw [HYL.out] at h1; exact h1, HI.out _ H5.out.below⟩
  go_wp2_with fail
  refine (same_ii I5.out.1 I5.out.2 (by omega)).mono ?_
  rintro e w6 ⟨rfl, hm⟩
  have H6 : Hid (St w0 w6 P q (put S j ((S j).begS ys)) (put S j ((S j).begS ys)) (put X 4 (.lf (.slice (some ⟨g, 0, none⟩) (mm + 2) c2) (ys ++ [-7, -8]))) (N + 2) (a + 1) b) := by obtain ⟨x, rfl⟩ := hm; exact H5.out.later (below_drawn x)
  clear hm H5 I5
  obtain ⟨y7, y8⟩ := mine_end HYL.out (H6.out.frm (k := 4) (by omega) rfl)
  have i8 : (mm : Int) < (mm : Int) + 2 := by omega
  have i9 : (mm : Int) + 1 < (mm : Int) + 2 := by omega
  go_wp2_with fail
  clear y7 y8 i8 i9 qa qa' qb qb' i5 i6 i7
  go_loopw [15] (fun i wr => ∃ x : Nat, x ≤ mm ∧ i = .int .i64 x ∧ Hid (∃ zs : List Int, zs.length = mm + 2 ∧ St w0 wr P q (put S j ((S j).begS ys)) (put S j ((S j).begS ys)) (put X 4 (.lf (.slice (some ⟨g, 0, none⟩) (mm + 2) c2) zs)) (N + 2) (a + 1) b)) (fun i _ => mm - (intOf i).toNat)
  case atStart => exact ⟨0, Nat.zero_le _, rfl, ys ++ [-7, -8], by simp [HYL.out], H6.out⟩
  case round =>
    clear H6
    obtain ⟨x, hx1, rfl, HZ⟩ := hrel
    by_cases hlt : x < mm
    · obtain ⟨zs, hzl, hz⟩ := HZ.out
      have hfr := hz.frm (k := 4) (by omega) rfl
      have hu : ∃ u, (B.I64 zs)[x]? = some u := ⟨_, List.getElem?_eq_getElem (by rw [B.I64_length]; omega)⟩
      obtain ⟨u, hu⟩ := hu
      have hcell : wr.cell? ⟨g, x, none⟩ = some u := by
        have h1 := World.ownsRow.cells hfr (g := g) rfl x u hu
        rw [Go.WideShapes.add_plain, Nat.zero_add] at h1
        exact h1
      have hfz : wr.frozen? ⟨g, x, none⟩ = false := by obtain ⟨cur, hc⟩ := own_typ (b := g) hfr rfl; simp [World.frozen?, hc]
      have HN : Hid (∃ zs : List Int, zs.length = mm + 2 ∧ St w0 (wr.setCell ⟨g, x, none⟩ (.int .i64 1)) P q (put S j ((S j).begS ys)) (put S j ((S j).begS ys)) (put X 4 (.lf (.slice (some ⟨g, 0, none⟩) (mm + 2) c2) zs)) (N + 2) (a + 1) b) := by
        refine ⟨zs.set x 1, by rw [List.length_set]; exact hzl, ?_⟩
        have h1 := hz.setLoose (k := 4) (by omega) rfl hzl.symm x 1
        rw [put_put] at h1
        exact h1
      have j1 : (x : Int) < (mm : Int) := by omega
      clear hzl hz hfr hu HZ
      go_wp2_with fail
      go_roundw
      case rel => exact ⟨x + 1, by omega, by go_num, HN.out⟩
      case measure => simp [intOf]; omega
    · have j1 : ¬ (x : Int) < (mm : Int) := by omega
      go_wp2
      go_ret
      obtain ⟨zs, hzl, hz⟩ := HZ.out
      have h1 := hz.drop (k := 4) (by omega)
      rw [put_put, put_idem _ _ HX.out.2.2] at h1
      exact ⟨rfl, h1⟩
end Go.Proofs.YtnbegddpgmejnaaGreat
