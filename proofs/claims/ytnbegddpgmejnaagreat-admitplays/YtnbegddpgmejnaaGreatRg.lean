/-
  Layer 13: the document's Append, Done, Leave; Enter.
-/
import Derived.Test.YtnbegddpgmejnaaGreatRe
namespace Go.Proofs.YtnbegddpgmejnaaGreat
open Go.RowKit


section
variable {w w' : World} {G : Nat → Prop} {R : Nat} {vW vI : Value} {a : Ad} {ws is : List Who}

theorem renter_at (h : RL w G R vW vI a ws is) (hR : ¬ G R) (ok : a.Ok) (hN : a.next ≤ 1000) : Calls Tryz.prog 28 #[qp R] w fun e w' => ∃ p c, e = .returned (.tuple #[.int .u64 a.entT, .slice p a.entF.length c, .int .i64 a.entE]) ∧ Frm w' (.slice p a.entF.length c) a.entF ∧ (∀ g, blk (.slice p a.entF.length c) = some g → Gp w w' G g) ∧ RAf w w' G R a.entS := by
  cases hW : a.W with
  | nil =>
    have e1 : a.entE = 110 := by simp [Ad.entE, hW]
    have e2 : a.entT = 0 ∧ a.entF = [] ∧ a.entS = a := ⟨by simp [Ad.entT, e1], by simp [Ad.entF, e1], by simp [Ad.entS, e1]⟩
    rw [e1, e2.1, e2.2.1, e2.2.2]
    refine (renter_no h hW).mono ?_
    rintro e' w' ⟨rfl, hw⟩
    subst hw
    exact ⟨none, 0, rfl, Frm.nil _, fun g hg => (by cases hg), RAf.same h (Below.refl _ _)⟩
  | cons x r =>
    cases hf : a.fits with
    | false =>
      have e1 : a.entE = 120 := by simp [Ad.entE, hW, hf]
      have e2 : a.entT = 0 ∧ a.entF = [] ∧ a.entS = a := ⟨by simp [Ad.entT, e1], by simp [Ad.entF, e1], by simp [Ad.entS, e1]⟩
      rw [e1, e2.1, e2.2.1, e2.2.2]
      refine (renter_room h ok hN hW hf).mono ?_
      rintro e' w' ⟨rfl, m, rfl⟩
      exact ⟨none, 0, rfl, Frm.nil _, fun g hg => (by cases hg), RAf.same h (below_drawn m)⟩
    | true =>
      have e1 : a.entE = 0 := by simp [Ad.entE, hW, hf]
      have ef : a.fT = x.1 ∧ a.fF = x.2 := ⟨by simp [Ad.fT, hW], by simp [Ad.fF, hW]⟩
      have e2 : a.entT = x.1 ∧ a.entF = x.2 := ⟨by simp [Ad.entT, e1, ef.1], by simp [Ad.entF, e1, ef.2]⟩
      have e3 : a.entS = { a with W := r, I := a.I ++ [(x.1, x.2, (x.2.length : Int) + 1)], got := x.1 } := by simp [Ad.entS, e1, ef.1, ef.2, hW]
      rw [e1, e2.1, e2.2, e3]
      refine (renter_ok h hR ok hN hW hf).mono ?_
      rintro e' w' ⟨p, c, h1, h2, h3, h4⟩
      exact ⟨p, c, h1, h2, fun g hg => .inl (h3 g hg), h4⟩
theorem len_piece4 {xs : List Value} {k l n : Nat} (h : xs.length = n * 4) (hkl : k + l ≤ n) : ((xs.drop (k * 4)).take (l * 4)).length = l * 4 := by
  rw [List.length_take, List.length_drop]
  omega
theorem piece_addr4 (g : Nat) {c pp n : Nat} (hc : n ≤ c) : ∃ ad : Addr, (if c = pp + 1 then some (⟨g, 0, none⟩ : Addr) else some ⟨g, (pp + 1) * 4, none⟩) = some ad ∧ (ad = ⟨g, (pp + 1) * 4, none⟩ ∨ (n - (pp + 1)) * 4 = 0) := by
  by_cases h : c = pp + 1
  · exact ⟨_, if_pos h, .inr (by omega)⟩
  · exact ⟨_, if_neg h, .inl rfl⟩
set_option maxHeartbeats 4000000 in
set_option maxRecDepth 100000 in
theorem rout_at {pp : Nat} (st : w.heap[R]? = some (.cells (rcells a vW vI) 71 (0, 0))) (hi : w.ownsRow 0 84 4 vI is.length (hcells is)) (hlt : pp < is.length) (hlen : is.length ≤ 1000) :
    Calls Tryz.prog 64 #[qp R, .int .i64 pp] w fun e w' => e = .returned (.tuple #[]) ∧ ∃ v', w'.heap[R]? = some (.cells (rcells a vW v') 71 (0, 0)) ∧ w'.ownsRow 0 84 4 v' (is.take pp ++ is.drop (pp + 1)).length (hcells (is.take pp ++ is.drop (pp + 1))) ∧ (∀ g, v'.ownBlock = some g → w.heap.size ≤ g) ∧ Kept (· = R) w w' := by
  obtain ⟨p, c, rfl, hc, hg⟩ := own_form hi
  obtain ⟨g, rfl⟩ := hg (by omega)
  have hst' : Hid (w.heap[R]? = some (.cells (rcells a vW (.slice (some ⟨g, 0, none⟩) is.length c)) 71 (0, 0))) := st
  have hr' : Hid (w.ownsRow 0 84 4 (.slice (some ⟨g, 0, none⟩) is.length c) is.length (hcells is)) := hi
  have HC : Hid (((hcells is).drop 0).take (pp * 4) ++ ((hcells is).drop ((pp + 1) * 4)).take ((is.length - (pp + 1)) * 4) = hcells (is.take pp ++ is.drop (pp + 1)) ∧ pp + (is.length - (pp + 1)) = (is.take pp ++ is.drop (pp + 1)).length) := by
    refine ⟨?_, ?_⟩
    · rw [List.drop_zero, hcells_take, hcells_drop, hcells_take, ← hcells_app]
      congr 2
      rw [List.take_of_length_le (by simp)]
    · rw [List.length_append, List.length_take, List.length_drop]
      omega
  have LP : Hid ((((hcells is).drop 0).take (pp * 4)).length = pp * 4 ∧ (((hcells is).drop ((pp + 1) * 4)).take ((is.length - (pp + 1)) * 4)).length = (is.length - (pp + 1)) * 4) := ⟨len_piece4 (k := 0) (hcells_len is) (by omega), len_piece4 (hcells_len is) (by omega)⟩
  clear st hi
  have j1 : (pp : Int) < (is.length : Int) := by omega
  have j2 : (pp : Int) ≤ (c : Int) := by omega
  have j4 : (pp : Int) + 1 ≤ (is.length : Int) := by omega
  have j5 : (0 : Int) ≤ (pp : Int) + 1 := by omega
  have j6 : ((pp : Int) + 1).toNat = pp + 1 := by omega
  have j7 : IntKind.i64.wrap ((pp : Int) + 1) = (pp : Int) + 1 := by rw [IntKind.wrap_i64]; omega
  obtain ⟨ga, ega, hga⟩ := piece_addr4 (pp := pp) g hc
  have Hga : Hid (ga = ⟨g, (pp + 1) * 4, none⟩ ∨ (is.length - (pp + 1)) * 4 = 0) := hga
  clear hga
  go_enter Tryz.func64, Tryz.ntmps64
  go_wp2_with fail
  refine wp_region_noPanic ?_
  refine wp_region_last 19 (Bw w.drew) (by kernel_rfl) ?_
  have hHeld : Bw w.drew w.drew := Below.refl _ _
  have KW : Hid (Kept (· = R) w w.drew) := Kept.of_below _ (below_drew w)
  have hst : Hid (w.drew.heap[R]? = some (.cells (rcells a vW (.slice (some ⟨g, 0, none⟩) is.length c)) 71 (0, 0))) := hst'.out
  have hr : Hid (w.drew.ownsRow 0 84 4 (.slice (some ⟨g, 0, none⟩) is.length c) is.length (hcells is)) := hr'.out
  clear hst' hr'
  generalize w.drew = we at *
  have HRlt : Hid (R < we.heap.size) := (Array.getElem?_eq_some_iff.1 hst.out).1
  have HL : Hid (∀ w', Bw we w' → w'.cell? ⟨R, 7, none⟩ = some (.slice (some ⟨g, 0, none⟩) is.length c)) := fun w' hb => (Below.cell hb (p := ⟨R, 7, none⟩) HRlt.out).trans (cell_of_row _ R 7 _ 71 (0, 0) hst.out)
  refine wpAnyL_take (i := 0) (v := ?va1) (by simp; rfl) (by kernel_rfl) (by kernel_rfl) (by kernel_rfl) (by kernel_rfl) (fun _ _ _ h => h) (Or.inl ⟨by rfl, ?ya1⟩) hHeld ?ra1
  case ya1 => intro w hSw; clear hSw; go_simp; with_reducible rfl
  simp only [Act.put, List.setIfInBounds_toArray, List.set_cons_zero, List.set_cons_succ]
  refine wpAnyL_take (i := 2) (v := ?va2) (by simp; rfl) (by kernel_rfl) (by kernel_rfl) (by kernel_rfl) (by kernel_rfl) (fun _ _ _ h => h) (Or.inl ⟨by rfl, ?ya2⟩) hHeld ?ra2
  case ya2 => intro w hSw; clear hSw; go_simp; with_reducible rfl
  simp only [Act.put, List.setIfInBounds_toArray, List.set_cons_zero, List.set_cons_succ]
  refine wpAnyL_take (i := 3) (v := ?va3) (by simp; rfl) (by kernel_rfl) (by kernel_rfl) (by kernel_rfl) (by kernel_rfl) (fun _ _ _ h => h) (Or.inl ⟨by rfl, ?ya3⟩) hHeld ?ra3
  case ya3 => intro w hSw; clear hSw; go_simp; with_reducible rfl
  simp only [Act.put, List.setIfInBounds_toArray, List.set_cons_zero, List.set_cons_succ]
  refine wpAnyL_take (i := 4) (v := ?va4) (by simp; rfl) (by kernel_rfl) (by kernel_rfl) (by kernel_rfl) (by kernel_rfl) (fun _ _ _ h => h) (Or.inl ⟨by rfl, ?ya4⟩) hHeld ?ra4
  case ya4 => intro w hSw; clear hSw; go_simp; with_reducible rfl
  simp only [Act.put, List.setIfInBounds_toArray, List.set_cons_zero, List.set_cons_succ]
  refine wpAnyL_take (i := 5) (v := ?va5) (by simp; rfl) (by kernel_rfl) (by kernel_rfl) (by kernel_rfl) (by kernel_rfl) (fun _ _ _ h => h) (Or.inl ⟨by rfl, ?ya5⟩) hHeld ?ra5
  case ya5 => intro w hSw; have z := HL.out w hSw; clear hSw; go_simp; with_reducible rfl
  simp only [Act.put, List.setIfInBounds_toArray, List.set_cons_zero, List.set_cons_succ]
  refine wpAnyL_take (i := 6) (v := ?va6) (by simp; rfl) (by kernel_rfl) (by kernel_rfl) (by kernel_rfl) (by kernel_rfl) (fun _ _ _ h => h) (Or.inl ⟨by rfl, ?ya6⟩) hHeld ?ra6
  case ya6 => intro w hSw; clear hSw; go_simp; with_reducible rfl
  simp only [Act.put, List.setIfInBounds_toArray, List.set_cons_zero, List.set_cons_succ]
  refine wpAnyL_take (i := 7) (v := ?va7) (by simp; rfl) (by kernel_rfl) (by kernel_rfl) (by kernel_rfl) (by kernel_rfl) (fun _ _ _ h => h) (Or.inl ⟨by rfl, ?ya7⟩) hHeld ?ra7
  case ya7 => intro w hSw; clear hSw; go_simp; with_reducible rfl
  simp only [Act.put, List.setIfInBounds_toArray, List.set_cons_zero, List.set_cons_succ]
  refine wpAnyL_take (i := 9) (v := ?va8) (by simp; rfl) (by kernel_rfl) (by kernel_rfl) (by kernel_rfl) (by kernel_rfl) (fun _ _ _ h => h) (Or.inl ⟨by rfl, ?ya8⟩) hHeld ?ra8
  case ya8 => intro w hSw; clear hSw; go_simp; with_reducible rfl
  simp only [Act.put, List.setIfInBounds_toArray, List.set_cons_zero, List.set_cons_succ]
  refine wpAnyL_take (i := 10) (v := ?va9) (by simp; rfl) (by kernel_rfl) (by kernel_rfl) (by kernel_rfl) (by kernel_rfl) (fun _ _ _ h => h) (Or.inl ⟨by rfl, ?ya9⟩) hHeld ?ra9
  case ya9 => intro w hSw; clear hSw; go_simp; with_reducible rfl
  simp only [Act.put, List.setIfInBounds_toArray, List.set_cons_zero, List.set_cons_succ]
  refine wpAnyL_take (i := 11) (v := ?va10) (by simp; rfl) (by kernel_rfl) (by kernel_rfl) (by kernel_rfl) (by kernel_rfl) (fun _ _ _ h => h) (Or.inl ⟨by rfl, ?ya10⟩) hHeld ?ra10
  case ya10 => intro w hSw; clear hSw; go_simp; with_reducible rfl
  simp only [Act.put, List.setIfInBounds_toArray, List.set_cons_zero, List.set_cons_succ]
  refine wpAnyL_take (i := 12) (v := ?va11) (by simp; rfl) (by kernel_rfl) (by kernel_rfl) (by kernel_rfl) (by kernel_rfl) (fun _ _ _ h => h) (Or.inl ⟨by rfl, ?ya11⟩) hHeld ?ra11
  case ya11 => intro w hSw; have z := HL.out w hSw; clear hSw; go_simp; with_reducible rfl
  simp only [Act.put, List.setIfInBounds_toArray, List.set_cons_zero, List.set_cons_succ]
  refine wpAnyL_take (i := 13) (v := ?va12) (by simp; rfl) (by kernel_rfl) (by kernel_rfl) (by kernel_rfl) (by kernel_rfl) (fun _ _ _ h => h) (Or.inl ⟨by rfl, ?ya12⟩) hHeld ?ra12
  case ya12 => intro w hSw; clear hSw; go_simp; with_reducible rfl
  simp only [Act.put, List.setIfInBounds_toArray, List.set_cons_zero, List.set_cons_succ]
  refine wpAnyL_take (i := 14) (v := ?va13) (by simp; rfl) (by kernel_rfl) (by kernel_rfl) (by kernel_rfl) (by kernel_rfl) (fun _ _ _ h => h) (Or.inl ⟨by rfl, ?ya13⟩) hHeld ?ra13
  case ya13 => intro w hSw; clear hSw; go_simp; with_reducible rfl
  simp only [Act.put, List.setIfInBounds_toArray, List.set_cons_zero, List.set_cons_succ]
  refine wpAnyL_take (i := 15) (v := ?va14) (by simp; rfl) (by kernel_rfl) (by kernel_rfl) (by kernel_rfl) (by kernel_rfl) (fun _ _ _ h => h) (Or.inl ⟨by rfl, ?ya14⟩) hHeld ?ra14
  case ya14 => intro w hSw; clear hSw; go_simp; with_reducible rfl
  simp only [Act.put, List.setIfInBounds_toArray, List.set_cons_zero, List.set_cons_succ]
  refine wpAnyL_ready (rs := [1]) (by kernel_rfl) (by simp) ?_
  refine AllReadyL.cons (by simp; rfl) (fun Kc hKc => ?_) AllReadyL.nil
  go_simp
  have F1 : Hid (FR we (we.alloc (.cells #[] 84)) 0 84 4 (.slice (some ⟨we.heap.size, 0, none⟩) 0 0) 0 []) := FR.empty 84 4 (Below.refl _ _) (Nat.zero_le _)
  have F1' : Hid (Bw we (we.alloc (.cells #[] 84))) := F1.out.below
  refine hKc.out _ _ (fun _ => F1'.out) ?_
  clear hHeld
  have hHeld := F1'.out
  clear hKc Kc
  revert F1 F1' hHeld
  generalize we.alloc (.cells #[] 84) = wa
  generalize we.heap.size = ge
  intro F1 F1' hHeld
  refine wpAnyL_ready (rs := [8]) (by kernel_rfl) (by simp) ?_
  refine AllReadyL.cons (by simp; rfl) (fun Kc hKc => ?_) AllReadyL.nil
  refine step_own (v := .slice (some ⟨ge, 0, none⟩) 0 0) (n := 0) (base := 0) rfl (.tmp 5) (.tmp 11) elW rfl rfl F1.out.own ⟨g, 0, none⟩ pp c (((hcells is).drop 0).take (pp * 4)) rfl LP.out.1 (own_piece (own_later hr.out F1.out.below) rfl 0 (pp * 4)) (ones_piece (ones_h is) _ _) (by omega) (Nat.zero_le _) ?_
  intro v1 wb ho hk hv
  have F2 : Hid (FR we wb 0 84 4 v1 pp (((hcells is).drop 0).take (pp * 4))) := by have h := F1.out.app ho hk hv; rw [Nat.zero_add, List.nil_append] at h; exact h
  have F2' : Hid (Bw we wb) := F2.out.below
  obtain ⟨p1, c1, e1⟩ := own_shape F2.out.own
  subst e1
  clear ho hk hv F1 F1'
  refine hKc.out _ _ (fun _ => F2'.out) ?_
  clear hHeld
  have hHeld := F2'.out
  clear hKc Kc
  simp only [Act.put, List.setIfInBounds_toArray, List.set_cons_zero, List.set_cons_succ]
  refine wpAnyL_ready (rs := [16]) (by kernel_rfl) (by simp) ?_
  refine AllReadyL.cons (by simp; rfl) (fun Kc hKc => ?_) AllReadyL.nil
  refine step_own (v := .slice p1 pp c1) (n := pp) (base := 0) rfl (.tmp 12) (.tmp 19) elW rfl rfl F2.out.own ga (is.length - (pp + 1)) (c - (pp + 1)) (((hcells is).drop ((pp + 1) * 4)).take ((is.length - (pp + 1)) * 4)) rfl LP.out.2 (own_piece2 (own_later hr.out F2.out.below) rfl Hga.out) (ones_piece (ones_h is) _ _) (by omega) (Nat.zero_le _) ?_
  intro v2 wc ho hk hv
  have F3 : Hid (FR we wc 0 84 4 v2 (pp + (is.length - (pp + 1))) (((hcells is).drop 0).take (pp * 4) ++ ((hcells is).drop ((pp + 1) * 4)).take ((is.length - (pp + 1)) * 4))) := F2.out.app ho hk hv
  have F3' : Hid (Bw we wc) := F3.out.below
  clear ho hk hv F2 F2'
  obtain ⟨p3, c3, e3⟩ := own_shape F3.out.own
  subst e3
  refine hKc.out _ _ (fun _ => F3'.out) ?_
  clear hHeld
  have hHeld := F3'.out
  clear hKc Kc
  simp only [Act.put, List.setIfInBounds_toArray, List.set_cons_zero, List.set_cons_succ]
  refine wpAnyL_ready (rs := [17]) (by kernel_rfl) (by simp) ?_
  refine AllReadyL.cons (by simp; rfl) (fun Kc hKc => ?_) AllReadyL.nil
  go_simp
  refine hKc.out _ _ (fun _ => F3'.out) ?_
  clear hHeld
  have hHeld := F3'.out
  clear hKc Kc
  refine wpAnyL_ready (rs := [18]) (by kernel_rfl) (by simp) ?_
  refine AllReadyL.cons (by simp; rfl) (fun Kc hKc => ?_) AllReadyL.nil
  go_simp
  refine hKc.out _ _ (fun _ => F3'.out) ?_
  clear hHeld
  have hHeld := F3'.out
  clear hKc Kc
  refine wpAnyL_ready (rs := [19]) (by kernel_rfl) (by simp) ?_
  refine AllReadyL.cons (by simp; rfl) (fun Kc hKc => ?_) AllReadyL.nil
  have HS : Hid (wc.heap[R]? = some (.cells (rcells a vW (.slice (some ⟨g, 0, none⟩) is.length c)) 71 (0, 0))) := (F3.out.below.block R HRlt.out).trans hst.out
  have e7 : wc.cell? ⟨R, 7, none⟩ = some (.slice (some ⟨g, 0, none⟩) is.length c) := cell_of_row _ R 7 _ 71 (0, 0) HS.out
  have f7 : wc.frozen? ⟨R, 7, none⟩ = false := by simp [World.frozen?, HS.out]
  go_simp
  refine hKc.out _ _ (fun h => absurd rfl h) ?_
  clear hKc Kc hHeld e7 f7
  refine wpAnyL_done (by kernel_rfl) (NoPanic.normal ?_) _
  go_wp2
  go_end0
  refine ⟨rfl, .slice p3 (pp + (is.length - (pp + 1))) c3, ?_, ?_, fun g hg => by have := F3.out.new g hg; have := KW.out.size; omega, (KW.out.trans (Kept.of_below (fun _ => False) F3.out.below) (fun _ _ e => e.elim)).trans (Kept.setCell R 7 _) (fun _ _ e => e)⟩
  · rw [L.st_set 7 _ HS.out]
    rfl
  · have := own_far F3.out.own (Kept.setCell R 7 (.slice p3 (pp + (is.length - (pp + 1))) c3)) (fun g hg e => by have := F3.out.new g hg; have := HRlt.out; omega)
    rw [HC.out.1, HC.out.2] at this
    rw [HC.out.2]
    exact this
set_option maxHeartbeats 4000000 in
set_option maxRecDepth 100000 in
theorem rdone_at (h : RL w G R vW vI a ws is) (hR : ¬ G R) (ok : a.Ok) (hN : a.next ≤ 1000) (t : Int) : Calls Tryz.prog 31 #[qp R, .int .u64 t] w fun e w' => e = .returned (.int .i64 (a.donE t)) ∧ RAf w w' G R (a.donS t) := by
  have hat := rin_at h ok hN t
  have H : Hid (RL w G R vW vI a ws is) := h
  have HR : Hid (¬ G R) := hR
  cases hf : fi t a.I with
  | none =>
    rw [atv_noI t hf] at hat
    have HA : Hid (Calls Tryz.prog 63 #[qp R, .int .u64 t] w fun e w' => e = .returned (.int .i64 (-1)) ∧ w' = w) := hat
    have e1 : Hid (a.donE t = 110 ∧ a.donS t = a) := ⟨by simp [Ad.donE, hf], by simp [Ad.donS, Ad.donE, hf]⟩
    clear h hat ok hR
    go_enter Tryz.func31, Tryz.ntmps31
    go_wp2_with (go_at_call 63; refine HA.out.mono ?_; rintro e w' ⟨rfl, rfl⟩)
    go_ret
    rw [e1.out.1, e1.out.2]
    exact ⟨rfl, RAf.same H.out (Below.refl _ _)⟩
  | some x =>
    obtain ⟨f, n⟩ := x
    rw [atv_yesI hf] at hat
    have e1 : Hid (a.donE t = 0 ∧ a.donS t = { a with used := a.used + 1, I := cutI t a.I }) := ⟨by simp [Ad.donE, hf], by simp [Ad.donS, Ad.donE, hf]⟩
    obtain ⟨hp, hm⟩ := h.at_some hf
    have hil : is.length ≤ 1000 := by have := h.ilen; have := ok.ilen; omega
    have x8 : w.cell? ⟨R, 8, none⟩ = some (.int .i64 a.used) := h.c 8
    have f8 := h.free 8
    obtain ⟨n1, n2, n3, n4, n5, n6⟩ := ok.nums
    have HC : Hid (cutI t a.I = a.I.take (L.pos t (lefts a.I)) ++ a.I.drop (L.pos t (lefts a.I) + 1)) := cutI_pos t a.I
    have hst2 : Hid ((w.setCell ⟨R, 8, none⟩ (.int .i64 (a.used + 1))).heap[R]? = some (.cells (rcells { a with used := a.used + 1 } vW vI) 71 (0, 0))) := by show _ = _; rw [L.st_set 8 _ h.st]; rfl
    have k2 : Hid (Kept (· = R) w (w.setCell ⟨R, 8, none⟩ (.int .i64 (a.used + 1)))) := Kept.setCell R 8 _
    have hi2 : Hid ((w.setCell ⟨R, 8, none⟩ (.int .i64 (a.used + 1))).ownsRow 0 84 4 vI is.length (hcells is)) := (h.I.turn hR k2.out).row
    clear h hm hf ok hR
    generalize L.pos t (lefts a.I) = pp at *
    have HA : Hid (Calls Tryz.prog 63 #[qp R, .int .u64 t] w fun e w' => e = .returned (.int .i64 (pp : Int)) ∧ w' = w) := hat
    clear hat
    go_enter Tryz.func31, Tryz.ntmps31
    go_wp2_with fail
    refine HA.out.mono ?_
    rintro e w' ⟨rfl, hw⟩
    subst hw
    go_wp2_with fail
    refine (rout_at hst2.out hi2.out hp hil).mono ?_
    rintro e w3 ⟨rfl, v', h1, h2, h3, h4⟩
    have H3 : Hid (w3.heap[R]? = some (.cells (rcells { a with used := a.used + 1 } vW v') 71 (0, 0)) ∧ w3.ownsRow 0 84 4 v' (is.take pp ++ is.drop (pp + 1)).length (hcells (is.take pp ++ is.drop (pp + 1))) ∧ (∀ g, v'.ownBlock = some g → w'.heap.size ≤ g) ∧ Kept (· = R) w' w3) := ⟨h1, h2, fun g hg => by have := h3 g hg; simpa using this, k2.out.trans h4 (fun _ _ e => e)⟩
    clear h1 h2 h3 h4
    go_wp2
    go_ret
    rw [e1.out.1, e1.out.2]
    refine ⟨rfl, ⟨vW, v', ws, is.take pp ++ is.drop (pp + 1), H3.out.1, H.out.W.turn HR.out H3.out.2.2.2, RR.fresh H3.out.2.1 ?_ H3.out.2.2.1⟩, H3.out.2.2.2⟩
    show Mis _ _ (cutI t a.I) _
    rw [HC.out]
    exact (H.out.I.mi.turn HR.out H3.out.2.2.2).cut pp
set_option maxHeartbeats 4000000 in
set_option maxRecDepth 100000 in
theorem rleave_at (h : RL w G R vW vI a ws is) (hR : ¬ G R) (ok : a.Ok) (hN : a.next ≤ 1000) (t : Int) : Calls Tryz.prog 33 #[qp R, .int .u64 t] w fun e w' => e = .returned (.int .i64 (a.leaE t)) ∧ RAf w w' G R (a.leaS t) := by
  have hat := rin_at h ok hN t
  have H : Hid (RL w G R vW vI a ws is) := h
  have HR : Hid (¬ G R) := hR
  cases hf : fi t a.I with
  | none =>
    rw [atv_noI t hf] at hat
    have HA : Hid (Calls Tryz.prog 63 #[qp R, .int .u64 t] w fun e w' => e = .returned (.int .i64 (-1)) ∧ w' = w) := hat
    have e1 : Hid (a.leaE t = 110 ∧ a.leaS t = a) := ⟨by simp [Ad.leaE, hf], by simp [Ad.leaS, Ad.leaE, hf]⟩
    clear h hat ok hR
    go_enter Tryz.func33, Tryz.ntmps33
    go_wp2_with (go_at_call 63; refine HA.out.mono ?_; rintro e w' ⟨rfl, rfl⟩)
    go_ret
    rw [e1.out.1, e1.out.2]
    exact ⟨rfl, RAf.same H.out (Below.refl _ _)⟩
  | some x =>
    obtain ⟨f, n⟩ := x
    rw [atv_yesI hf] at hat
    obtain ⟨hp, hm⟩ := h.at_some hf
    have hn := ok.iform _ (fi_mem hf)
    simp only at hn
    have hil : is.length ≤ 1000 := by have := h.ilen; have := ok.ilen; omega
    obtain ⟨p, c, ev, hc, hg⟩ := own_form h.ir
    obtain ⟨g, rfl⟩ := hg (by omega)
    have hr := h.ir
    rw [ev] at hr
    obtain ⟨_, _, _, x3⟩ := hrow_cell hr hp
    have c7 : w.cell? ⟨R, 7, none⟩ = some vI := h.c 7
    rw [ev] at c7
    rw [hm.b] at x3
    have i1 : ((L.pos t (lefts a.I) : Nat) : Int) < (is.length : Int) := by omega
    have HC : Hid (cutI t a.I = a.I.take (L.pos t (lefts a.I)) ++ a.I.drop (L.pos t (lefts a.I) + 1)) := cutI_pos t a.I
    by_cases hk : n < (f.length : Int) + 1
    · have e1 : Hid (a.leaE t = 180 ∧ a.leaS t = a) := ⟨by simp [Ad.leaE, hf, hk], by simp [Ad.leaS, Ad.leaE, hf, hk]⟩
      have hd : decide (n ≠ 0 ∧ n < (f.length : Int) + 1) = true := decide_eq_true ⟨by omega, hk⟩
      rw [hd] at x3
      clear h hm hf ok hR ev hr hk hd hn
      generalize L.pos t (lefts a.I) = pp at *
      have HA : Hid (Calls Tryz.prog 63 #[qp R, .int .u64 t] w fun e w' => e = .returned (.int .i64 (pp : Int)) ∧ w' = w) := hat
      clear hat
      go_enter Tryz.func33, Tryz.ntmps33
      go_wp2_with (go_at_call 63; refine HA.out.mono ?_; rintro e w' ⟨rfl, hw⟩; subst hw)
      go_ret
      rw [e1.out.1, e1.out.2]
      exact ⟨rfl, RAf.same H.out (Below.refl _ _)⟩
    · have e1 : Hid (a.leaE t = 0 ∧ a.leaS t = { a with I := cutI t a.I }) := ⟨by simp [Ad.leaE, hf, hk], by simp [Ad.leaS, Ad.leaE, hf, hk]⟩
      have hd : decide (n ≠ 0 ∧ n < (f.length : Int) + 1) = false := decide_eq_false fun e => hk e.2
      rw [hd] at x3
      clear h hm hf ok hR ev hr hk hd hn
      generalize L.pos t (lefts a.I) = pp at *
      have HA : Hid (Calls Tryz.prog 63 #[qp R, .int .u64 t] w fun e w' => e = .returned (.int .i64 (pp : Int)) ∧ w' = w) := hat
      clear hat
      go_enter Tryz.func33, Tryz.ntmps33
      go_wp2_with fail
      refine HA.out.mono ?_
      rintro e w' ⟨rfl, hw⟩
      subst hw
      go_wp2_with fail
      refine (rout_at H.out.st H.out.ir hp hil).mono ?_
      rintro e w3 ⟨rfl, v', h1, h2, h3, h4⟩
      have H3 : Hid (w3.heap[R]? = some (.cells (rcells a vW v') 71 (0, 0)) ∧ w3.ownsRow 0 84 4 v' (is.take pp ++ is.drop (pp + 1)).length (hcells (is.take pp ++ is.drop (pp + 1))) ∧ (∀ g, v'.ownBlock = some g → w'.heap.size ≤ g) ∧ Kept (· = R) w' w3) := ⟨h1, h2, h3, h4⟩
      clear h1 h2 h3 h4
      go_wp2
      go_ret
      rw [e1.out.1, e1.out.2]
      refine ⟨rfl, ⟨vW, v', ws, is.take pp ++ is.drop (pp + 1), H3.out.1, H.out.W.turn HR.out H3.out.2.2.2, RR.fresh H3.out.2.1 ?_ H3.out.2.2.1⟩, H3.out.2.2.2⟩
      show Mis _ _ (cutI t a.I) _
      rw [HC.out]
      exact (H.out.I.mi.turn HR.out H3.out.2.2.2).cut pp
end
end Go.Proofs.YtnbegddpgmejnaaGreat
