/-
  Layer 14: the document's Drop.
-/
import Derived.Test.YtkffmglcllhbmaaRe
namespace Go.Proofs.Ytkffmglcllhbmaa
open Go.RowKit

section
variable {w w' : World} {G : Nat → Prop} {R : Nat} {v : Value} {a : Lk} {es : List Er}
set_option maxHeartbeats 2000000 in
set_option maxRecDepth 100000 in
theorem rdrop_out (h : RL w G R v a es) (hn : a.L.length ≤ 9000) {t : Int} (hi : isIn a.L t = false) : Calls Try.prog 50 #[qp R, .int .u64 t] w fun e w' => e = .returned (.tuple #[.int .i64 0, .int .i64 110]) ∧ Below w.heap.size w w' := by
  have hat := rat_at h (by omega) t
  rw [atN_no hi] at hat
  have HA : Hid (Calls Try.prog 62 #[qp R, .int .u64 t] w fun e w' => e = .returned (.int .i64 (-1)) ∧ w' = w) := hat
  clear h hat hi
  go_enter Try.func50, Try.ntmps50
  go_wp2_with (go_at_call 62; refine HA.out.mono ?_; rintro e w' ⟨rfl, rfl⟩)
  go_ret2
  exact ⟨rfl, Below.refl _ _⟩
theorem len_piece3 {xs : List Value} {k l n : Nat} (h : xs.length = n * 3) (hkl : k + l ≤ n) : ((xs.drop (k * 3)).take (l * 3)).length = l * 3 := by
  rw [List.length_take, List.length_drop]
  omega
theorem piece_addr3 (g : Nat) {c pp n : Nat} (hc : n ≤ c) : ∃ ad : Addr, (if c = pp + 1 then some (⟨g, 0, none⟩ : Addr) else some ⟨g, (pp + 1) * 3, none⟩) = some ad ∧ (ad = ⟨g, (pp + 1) * 3, none⟩ ∨ (n - (pp + 1)) * 3 = 0) := by
  by_cases h : c = pp + 1
  · exact ⟨_, if_pos h, .inr (by omega)⟩
  · exact ⟨_, if_neg h, .inl rfl⟩
/-- the list without one -/
theorem rl_dropped {we wc : World} {t : Int} {p3 : Option Addr} {n3 c3 : Nat} (h : RL w G R v a es) (hR : ¬ G R) (ok : Ok a) (hn : n3 = (es.take (posE t a.L) ++ es.drop (posE t a.L + 1)).length) (hb : Below w.heap.size w we) (hF : O.FR we wc 0 97 3 (.slice p3 n3 c3) n3 (rcs (es.take (posE t a.L) ++ es.drop (posE t a.L + 1)))) :
    RAf w (wc.setCell ⟨R, 2, none⟩ (.slice p3 n3 c3)) G R (drpS a t) := by
  subst hn
  have hbc : Below w.heap.size w wc := below_then hb hF.below
  have k5 := Kept.setCell (w := wc) R 2 (.slice p3 (es.take (posE t a.L) ++ es.drop (posE t a.L + 1)).length c3)
  have kk : Kept (· = R) w (wc.setCell ⟨R, 2, none⟩ (.slice p3 (es.take (posE t a.L) ++ es.drop (posE t a.L + 1)).length c3)) := (Kept.of_below _ hbc).trans k5 (fun _ _ e => e)
  refine ⟨⟨_, _, ?_, O.own_far hF.own k5 fun g hg e => ?_, ?_, fun g hg => ?_⟩, kk⟩
  · rw [st_set 2 _ (h.later hbc).st]; rfl
  · have := hF.new g hg; have := h.lt; have := hb.size; omega
  · show Mis _ _ (drpL a.L t) _
    rw [drp_pos ok.rise]
    exact (h.mi.turn hR kk).cut _
  · have h1 := hF.new g hg
    have h2 := (hF.own.lt g hg).2
    have h3 := k5.size
    exact .inr ⟨by have := hb.size; omega, by omega⟩
set_option maxHeartbeats 4000000 in
set_option maxRecDepth 100000 in
theorem rdrop_in (h : RL w G R v a es) (hR : ¬ G R) (ok : Ok a) (hn : a.L.length ≤ 9000) {t : Int} (hi : isIn a.L t = true) : Calls Try.prog 50 #[qp R, .int .u64 t] w fun e w' => e = .returned (.tuple #[.int .i64 (ent a.L t).d, .int .i64 0]) ∧ RAf w w' G R (drpS a t) := by
  have hat := rat_at h (by omega) t
  rw [atN_yes hi] at hat
  obtain ⟨g, c, p', c', rfl, hc, hk, hx⟩ := h.ent hi
  have c2 : w.cell? ⟨R, 2, none⟩ = some (.slice (some ⟨g, 0, none⟩) a.L.length c) := h.c 2
  have x2 := hx.d
  have HRlt : Hid (R < w.heap.size) := h.lt
  have hr0 : Hid (w.ownsRow 0 97 3 (.slice (some ⟨g, 0, none⟩) a.L.length c) a.L.length (rcs es)) := by have := h.row; rw [h.len] at this; exact this
  have hst0 : Hid (w.heap[R]? = some (.cells (rcells a (.slice (some ⟨g, 0, none⟩) a.L.length c)) 103 (0, 0))) := h.st
  have HFIN0 : Hid (∀ (wc : World) (p3 : Option Addr) (c3 : Nat), O.FR w.drew wc 0 97 3 (.slice p3 (posE t a.L + (a.L.length - (posE t a.L + 1))) c3) (posE t a.L + (a.L.length - (posE t a.L + 1))) (((rcs es).drop 0).take (posE t a.L * 3) ++ ((rcs es).drop ((posE t a.L + 1) * 3)).take ((a.L.length - (posE t a.L + 1)) * 3)) → RAf w (wc.setCell ⟨R, 2, none⟩ (.slice p3 (posE t a.L + (a.L.length - (posE t a.L + 1))) c3)) G R (drpS a t)) := fun wc p3 c3 hF => by
    have e1 : ((rcs es).drop 0).take (posE t a.L * 3) ++ ((rcs es).drop ((posE t a.L + 1) * 3)).take ((a.L.length - (posE t a.L + 1)) * 3) = rcs (es.take (posE t a.L) ++ es.drop (posE t a.L + 1)) := by
      rw [List.drop_zero, rcs_take, rcs_drop, rcs_take, ← rcs_app]
      congr 2
      rw [List.take_of_length_le (by rw [List.length_drop, h.len]; omega)]
    rw [e1] at hF
    refine rl_dropped h hR ok ?_ (below_drawn 1) hF
    rw [List.length_append, List.length_take, List.length_drop, h.len]
    omega
  have LP : Hid ((((rcs es).drop 0).take (posE t a.L * 3)).length = posE t a.L * 3 ∧ (((rcs es).drop ((posE t a.L + 1) * 3)).take ((a.L.length - (posE t a.L + 1)) * 3)).length = (a.L.length - (posE t a.L + 1)) * 3) := ⟨len_piece3 (k := 0) (n := a.L.length) (by rw [rcs_len, h.len]) (by omega), len_piece3 (n := a.L.length) (by rw [rcs_len, h.len]) (by omega)⟩
  clear h hx hi ok hR
  generalize (ent a.L t).d = dd at *
  generalize posE t a.L = pp at *
  generalize a.L.length = n at *
  have HA : Hid (Calls Try.prog 62 #[qp R, .int .u64 t] w fun e w' => e = .returned (.int .i64 (pp : Int)) ∧ w' = w) := hat
  clear hat
  have j0 : ¬ (pp : Int) < 0 := by omega
  have j1 : (pp : Int) < (n : Int) := by omega
  have j2 : (pp : Int) ≤ (c : Int) := by omega
  have j4 : (pp : Int) + 1 ≤ (n : Int) := by omega
  have j5 : (0 : Int) ≤ (pp : Int) + 1 := by omega
  have j6 : ((pp : Int) + 1).toNat = pp + 1 := by omega
  have j7 : IntKind.i64.wrap ((pp : Int) + 1) = (pp : Int) + 1 := by rw [IntKind.wrap_i64]; omega
  obtain ⟨ga, ega, hga⟩ := piece_addr3 (pp := pp) g hc
  have Hga : Hid (ga = ⟨g, (pp + 1) * 3, none⟩ ∨ (n - (pp + 1)) * 3 = 0) := hga
  clear hga
  go_enter Try.func50, Try.ntmps50
  go_wp2_with (go_at_call 62; refine HA.out.mono ?_; rintro e w' ⟨rfl, rfl⟩)
  clear HA c2 x2
  refine wp_region_noPanic ?_
  refine wp_region_last 19 (Bw w'.drew) (by kernel_rfl) ?_
  have hHeld : Bw w'.drew w'.drew := Below.refl _ _
  have hst : Hid (w'.drew.heap[R]? = some (.cells (rcells a (.slice (some ⟨g, 0, none⟩) n c)) 103 (0, 0))) := hst0.out
  have hr : Hid (w'.drew.ownsRow 0 97 3 (.slice (some ⟨g, 0, none⟩) n c) n (rcs es)) := hr0.out
  have HL : Hid (∀ w1, Bw w'.drew w1 → w1.cell? ⟨R, 2, none⟩ = some (.slice (some ⟨g, 0, none⟩) n c)) := fun w1 hb => (Below.cell hb (p := ⟨R, 2, none⟩) HRlt.out).trans (cell_of_row _ R 2 _ 103 (0, 0) hst.out)
  have HFZ : Hid (∀ w1, Bw w'.drew w1 → w1.frozen? ⟨R, 2, none⟩ = false) := fun w1 hb => by
    have := (Below.block hb R HRlt.out).trans hst.out
    simp [World.frozen?, this]
  have HFIN : Hid (∀ (wc : World) (p3 : Option Addr) (c3 : Nat), O.FR w'.drew wc 0 97 3 (.slice p3 (pp + (n - (pp + 1))) c3) (pp + (n - (pp + 1))) (((rcs es).drop 0).take (pp * 3) ++ ((rcs es).drop ((pp + 1) * 3)).take ((n - (pp + 1)) * 3)) → RAf w' (wc.setCell ⟨R, 2, none⟩ (.slice p3 (pp + (n - (pp + 1))) c3)) G R (drpS a t)) := HFIN0.out
  clear hst0 hr0 HFIN0 HRlt
  generalize w'.drew = we at *
  refine wpAnyL_take (i := 0) (v := ?va1) (by simp; rfl) (by kernel_rfl) (by kernel_rfl) (by kernel_rfl) (by kernel_rfl) (fun _ _ _ h => h) (Or.inl ⟨by rfl, ?ya1⟩) hHeld ?ra1
  case ya1 => intro w hSw; clear hSw; go_simp; with_reducible rfl
  simp only [Act.put, List.setIfInBounds_toArray, List.set_cons_zero, List.set_cons_succ]
  refine wpAnyL_take (i := 2) (v := ?va2) (by simp; rfl) (by kernel_rfl) (by kernel_rfl) (by kernel_rfl) (by kernel_rfl) (fun _ _ _ h => h) (Or.inl ⟨by rfl, ?ya2⟩) hHeld ?ra2
  case ya2 => intro w hSw; clear hSw; go_simp; with_reducible rfl
  simp only [Act.put, List.setIfInBounds_toArray, List.set_cons_zero, List.set_cons_succ]
  refine wpAnyL_take (i := 3) (v := ?va3) (by simp; rfl) (by kernel_rfl) (by kernel_rfl) (by kernel_rfl) (by kernel_rfl) (fun _ _ _ h => h) (Or.inl ⟨by rfl, ?ya3⟩) hHeld ?ra3
  case ya3 => intro w hSw; clear hSw; go_simp; with_reducible rfl
  simp only [Act.put, List.setIfInBounds_toArray, List.set_cons_zero, List.set_cons_succ]
  refine wpAnyL_take (i := 4) (v := ?va4) (by simp; rfl) (by kernel_rfl) (by kernel_rfl) (by kernel_rfl) (by kernel_rfl) (fun _ _ _ h => h) (Or.inl ⟨by rfl, ?ya4⟩) hHeld ?ra4
  case ya4 => intro w hSw; clear hSw; go_simp; with_reducible rfl
  simp only [Act.put, List.setIfInBounds_toArray, List.set_cons_zero, List.set_cons_succ]
  refine wpAnyL_take (i := 5) (v := ?va5) (by simp; rfl) (by kernel_rfl) (by kernel_rfl) (by kernel_rfl) (by kernel_rfl) (fun _ _ _ h => h) (Or.inl ⟨by rfl, ?ya5⟩) hHeld ?ra5
  case ya5 => intro w hSw; have z := HL.out w hSw; clear hSw; go_simp; with_reducible rfl
  simp only [Act.put, List.setIfInBounds_toArray, List.set_cons_zero, List.set_cons_succ]
  refine wpAnyL_take (i := 6) (v := ?va6) (by simp; rfl) (by kernel_rfl) (by kernel_rfl) (by kernel_rfl) (by kernel_rfl) (fun _ _ _ h => h) (Or.inl ⟨by rfl, ?ya6⟩) hHeld ?ra6
  case ya6 => intro w hSw; clear hSw; go_simp; with_reducible rfl
  simp only [Act.put, List.setIfInBounds_toArray, List.set_cons_zero, List.set_cons_succ]
  refine wpAnyL_take (i := 7) (v := ?va7) (by simp; rfl) (by kernel_rfl) (by kernel_rfl) (by kernel_rfl) (by kernel_rfl) (fun _ _ _ h => h) (Or.inl ⟨by rfl, ?ya7⟩) hHeld ?ra7
  case ya7 => intro w hSw; clear hSw; go_simp; with_reducible rfl
  simp only [Act.put, List.setIfInBounds_toArray, List.set_cons_zero, List.set_cons_succ]
  refine wpAnyL_take (i := 9) (v := ?va8) (by simp; rfl) (by kernel_rfl) (by kernel_rfl) (by kernel_rfl) (by kernel_rfl) (fun _ _ _ h => h) (Or.inl ⟨by rfl, ?ya8⟩) hHeld ?ra8
  case ya8 => intro w hSw; clear hSw; go_simp; with_reducible rfl
  simp only [Act.put, List.setIfInBounds_toArray, List.set_cons_zero, List.set_cons_succ]
  refine wpAnyL_take (i := 10) (v := ?va9) (by simp; rfl) (by kernel_rfl) (by kernel_rfl) (by kernel_rfl) (by kernel_rfl) (fun _ _ _ h => h) (Or.inl ⟨by rfl, ?ya9⟩) hHeld ?ra9
  case ya9 => intro w hSw; clear hSw; go_simp; with_reducible rfl
  simp only [Act.put, List.setIfInBounds_toArray, List.set_cons_zero, List.set_cons_succ]
  refine wpAnyL_take (i := 11) (v := ?va10) (by simp; rfl) (by kernel_rfl) (by kernel_rfl) (by kernel_rfl) (by kernel_rfl) (fun _ _ _ h => h) (Or.inl ⟨by rfl, ?ya10⟩) hHeld ?ra10
  case ya10 => intro w hSw; clear hSw; go_simp; with_reducible rfl
  simp only [Act.put, List.setIfInBounds_toArray, List.set_cons_zero, List.set_cons_succ]
  refine wpAnyL_take (i := 12) (v := ?va11) (by simp; rfl) (by kernel_rfl) (by kernel_rfl) (by kernel_rfl) (by kernel_rfl) (fun _ _ _ h => h) (Or.inl ⟨by rfl, ?ya11⟩) hHeld ?ra11
  case ya11 => intro w hSw; have z := HL.out w hSw; clear hSw; go_simp; with_reducible rfl
  simp only [Act.put, List.setIfInBounds_toArray, List.set_cons_zero, List.set_cons_succ]
  refine wpAnyL_take (i := 13) (v := ?va12) (by simp; rfl) (by kernel_rfl) (by kernel_rfl) (by kernel_rfl) (by kernel_rfl) (fun _ _ _ h => h) (Or.inl ⟨by rfl, ?ya12⟩) hHeld ?ra12
  case ya12 => intro w hSw; clear hSw; go_simp; with_reducible rfl
  simp only [Act.put, List.setIfInBounds_toArray, List.set_cons_zero, List.set_cons_succ]
  refine wpAnyL_take (i := 14) (v := ?va13) (by simp; rfl) (by kernel_rfl) (by kernel_rfl) (by kernel_rfl) (by kernel_rfl) (fun _ _ _ h => h) (Or.inl ⟨by rfl, ?ya13⟩) hHeld ?ra13
  case ya13 => intro w hSw; clear hSw; go_simp; with_reducible rfl
  simp only [Act.put, List.setIfInBounds_toArray, List.set_cons_zero, List.set_cons_succ]
  refine wpAnyL_take (i := 15) (v := ?va14) (by simp; rfl) (by kernel_rfl) (by kernel_rfl) (by kernel_rfl) (by kernel_rfl) (fun _ _ _ h => h) (Or.inl ⟨by rfl, ?ya14⟩) hHeld ?ra14
  case ya14 => intro w hSw; clear hSw; go_simp; with_reducible rfl
  simp only [Act.put, List.setIfInBounds_toArray, List.set_cons_zero, List.set_cons_succ]
  refine wpAnyL_ready (rs := [1]) (by kernel_rfl) (by simp) ?_
  refine AllReadyL.cons (by simp; rfl) (fun Kc hKc => ?_) AllReadyL.nil
  go_simp
  have F1 : Hid (O.FR we (we.alloc (.cells #[] 97)) 0 97 3 (.slice (some ⟨we.heap.size, 0, none⟩) 0 0) 0 []) := O.FR.empty 97 3 (Below.refl _ _) (Nat.zero_le _)
  have F1' : Hid (Bw we (we.alloc (.cells #[] 97))) := F1.out.below
  refine hKc.out _ _ (fun _ => F1'.out) ?_
  clear hHeld
  have hHeld := F1'.out
  clear hKc Kc
  revert F1 F1' hHeld
  generalize we.alloc (.cells #[] 97) = wa
  generalize we.heap.size = ge
  intro F1 F1' hHeld
  refine wpAnyL_ready (rs := [8]) (by kernel_rfl) (by simp) ?_
  refine AllReadyL.cons (by simp; rfl) (fun Kc hKc => ?_) AllReadyL.nil
  refine O.step_own (v := .slice (some ⟨ge, 0, none⟩) 0 0) (n := 0) (base := 0) rfl (.tmp 22) (.tmp 28) O.elE rfl rfl F1.out.own ⟨g, 0, none⟩ pp c (((rcs es).drop 0).take (pp * 3)) rfl LP.out.1 (O.own_piece (O.own_later hr.out F1.out.below) rfl 0 (pp * 3)) (O.ones_piece (ones_r es) _ _) (by omega) (Nat.zero_le _) ?_
  intro v1 wb ho hk hv
  have F2 : Hid (O.FR we wb 0 97 3 v1 pp (((rcs es).drop 0).take (pp * 3))) := by have h := F1.out.app ho hk hv; rw [Nat.zero_add, List.nil_append] at h; exact h
  have F2' : Hid (Bw we wb) := F2.out.below
  obtain ⟨p1, c1, e1⟩ := O.own_shape F2.out.own
  subst e1
  clear ho hk hv F1 F1'
  refine hKc.out _ _ (fun _ => F2'.out) ?_
  clear hHeld
  have hHeld := F2'.out
  clear hKc Kc
  simp only [Act.put, List.setIfInBounds_toArray, List.set_cons_zero, List.set_cons_succ]
  refine wpAnyL_ready (rs := [16]) (by kernel_rfl) (by simp) ?_
  refine AllReadyL.cons (by simp; rfl) (fun Kc hKc => ?_) AllReadyL.nil
  refine O.step_own (v := .slice p1 pp c1) (n := pp) (base := 0) rfl (.tmp 29) (.tmp 36) O.elE rfl rfl F2.out.own ga (n - (pp + 1)) (c - (pp + 1)) (((rcs es).drop ((pp + 1) * 3)).take ((n - (pp + 1)) * 3)) rfl LP.out.2 (O.own_piece2 (O.own_later hr.out F2.out.below) rfl Hga.out) (O.ones_piece (ones_r es) _ _) (by omega) (Nat.zero_le _) ?_
  intro v2 wc ho hk hv
  have F3 : Hid (O.FR we wc 0 97 3 v2 (pp + (n - (pp + 1))) (((rcs es).drop 0).take (pp * 3) ++ ((rcs es).drop ((pp + 1) * 3)).take ((n - (pp + 1)) * 3))) := F2.out.app ho hk hv
  have F3' : Hid (Bw we wc) := F3.out.below
  clear ho hk hv F2 F2'
  obtain ⟨p3, c3, e3⟩ := O.own_shape F3.out.own
  subst e3
  refine hKc.out _ _ (fun _ => F3'.out) ?_
  clear hHeld
  have hHeld := F3'.out
  clear hKc Kc
  simp only [Act.put, List.setIfInBounds_toArray, List.set_cons_zero, List.set_cons_succ]
  refine wpAnyL_ready (rs := [17]) (by kernel_rfl) (by simp) ?_
  refine AllReadyL.cons (by simp; rfl) (fun Kc hKc => ?_) AllReadyL.nil
  go_simp
  refine hKc.out _ _ (fun _ => F3'.out) ?_
  clear hHeld
  have hHeld := F3'.out
  clear hKc Kc
  refine wpAnyL_ready (rs := [18]) (by kernel_rfl) (by simp) ?_
  refine AllReadyL.cons (by simp; rfl) (fun Kc hKc => ?_) AllReadyL.nil
  go_simp
  refine hKc.out _ _ (fun _ => F3'.out) ?_
  clear hHeld
  have hHeld := F3'.out
  clear hKc Kc
  refine wpAnyL_ready (rs := [19]) (by kernel_rfl) (by simp) ?_
  refine AllReadyL.cons (by simp; rfl) (fun Kc hKc => ?_) AllReadyL.nil
  have e7 : wc.cell? ⟨R, 2, none⟩ = some (.slice (some ⟨g, 0, none⟩) n c) := HL.out wc F3'.out
  have f7 : wc.frozen? ⟨R, 2, none⟩ = false := HFZ.out wc F3'.out
  go_simp
  refine hKc.out _ _ (fun h => absurd rfl h) ?_
  clear hKc Kc hHeld e7 f7
  refine wpAnyL_done (by kernel_rfl) (NoPanic.normal ?_) _
  go_wp2
  go_ret2
  exact ⟨rfl, HFIN.out wc p3 c3 F3.out⟩
theorem rdrop_at (h : RL w G R v a es) (hR : ¬ G R) (ok : Ok a) (hn : a.L.length ≤ 9000) (t : Int) : Calls Try.prog 50 #[qp R, .int .u64 t] w fun e w' => e = .returned (.tuple #[.int .i64 (drpN a.L t), .int .i64 (drpE a.L t)]) ∧ RAf w w' G R (drpS a t) := by
  cases hi : isIn a.L t with
  | false =>
    have e1 : drpN a.L t = 0 ∧ drpE a.L t = 110 := ⟨by simp [drpN, (out_nx hi).2.2.2.1], by simp [drpE, hi]⟩
    have e2 : drpS a t = a := by unfold drpS; rw [filter_out fun e he e2 => by have := isIn_iff.2 (mem_tix.2 ⟨e, he, e2⟩); rw [hi] at this; cases this]
    rw [e1.1, e1.2, e2]
    exact (rdrop_out h hn hi).mono fun e w' ⟨h1, h2⟩ => ⟨h1, RAf.same h h2⟩
  | true =>
    have e1 : drpE a.L t = 0 := by simp [drpE, hi]
    rw [e1]
    exact rdrop_in h hR ok hn hi
end
end Go.Proofs.Ytkffmglcllhbmaa
