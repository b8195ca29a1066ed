/-
  Layer 14: the document's Take.
-/
import Derived.Test.YtkffmglcllhbmaaRd
import Derived.Deep.DeepCutAuto
namespace Go.Proofs.Ytkffmglcllhbmaa
open Go.RowKit

section
variable {w w' : World} {G : Nat → Prop} {R : Nat} {v : Value} {a : Lk} {es : List Er}
set_option maxHeartbeats 2000000 in
set_option maxRecDepth 100000 in
theorem rtake_out (h : RL w G R v a es) (hn : a.L.length ≤ 9000) {t : Int} (hi : isIn a.L t = false) : Calls Try.prog 49 #[qp R, .int .u64 t] w fun e w' => e = .returned (.tuple #[.int .i64 0, .int .i64 110]) ∧ Below w.heap.size w w' := by
  have hat := rat_at h (by omega) t
  rw [atN_no hi] at hat
  have HA : Hid (Calls Try.prog 62 #[qp R, .int .u64 t] w fun e w' => e = .returned (.int .i64 (-1)) ∧ w' = w) := hat
  clear h hat hi
  go_enter Try.func49, Try.ntmps49
  go_wp2_with (go_at_call 62; refine HA.out.mono ?_; rintro e w' ⟨rfl, rfl⟩)
  go_ret2
  exact ⟨rfl, Below.refl _ _⟩
set_option maxHeartbeats 2000000 in
set_option maxRecDepth 100000 in
theorem rtake_full (h : RL w G R v a es) (ok : Ok a) (hn : a.L.length ≤ 9000) {t : Int} (hi : isIn a.L t = true) (hb : (ent a.L t).nxB = false) : Calls Try.prog 49 #[qp R, .int .u64 t] w fun e w' => e = .returned (.tuple #[.int .i64 0, .int .i64 180]) ∧ Below w.heap.size w w' := by
  have hat := rat_at h (by omega) t
  have hnx := rnext_at h ok (by omega) t
  rw [atN_yes hi] at hat
  rw [hb] at hnx
  generalize posE t a.L = pp at *
  generalize (ent a.L t).nx = nx at *
  have HA : Hid (Calls Try.prog 62 #[qp R, .int .u64 t] w fun e w' => e = .returned (.int .i64 (pp : Int)) ∧ w' = w) := hat
  have HN : Hid (Calls Try.prog 63 #[qp R, .int .u64 t] w fun e w' => e = .returned (.tuple #[.int .i64 nx, .bool false]) ∧ ∃ m, w' = w.drewN m) := hnx
  clear h hat hi hnx
  have i0 : ¬ (pp : Int) < 0 := by omega
  go_enter Try.func49, Try.ntmps49
  go_wp2_with (go_at_call 62; refine HA.out.mono ?_; rintro e w' ⟨rfl, rfl⟩)
  refine HN.out.mono ?_
  rintro e w1 ⟨rfl, m, hm⟩
  have HM : Hid (Below w'.heap.size w' w1) := by subst hm; exact below_drawn m
  clear hm HN HA
  go_wp2
  go_ret2
  exact ⟨rfl, HM.out⟩
set_option maxHeartbeats 2000000 in
set_option maxRecDepth 100000 in
theorem rtake_wait (h : RL w G R v a es) (ok : Ok a) (hn : a.L.length ≤ 9000) {t : Int} (hi : isIn a.L t = true) (hb : (ent a.L t).nxB = true) (hr : rdyS a.L t = false) : Calls Try.prog 49 #[qp R, .int .u64 t] w fun e w' => e = .returned (.tuple #[.int .i64 0, .int .i64 130]) ∧ Below w.heap.size w w' := by
  have hat := rat_at h (by omega) t
  have hnx := rnext_at h ok (by omega) t
  have H : Hid (RL w G R v a es ∧ Ok a) := ⟨h, ok⟩
  have HRD : Hid (rdyS a.L t = false) := hr
  rw [atN_yes hi] at hat
  rw [hb] at hnx
  clear hb
  generalize posE t a.L = pp at *
  generalize (ent a.L t).nx = nx at *
  have HA : Hid (Calls Try.prog 62 #[qp R, .int .u64 t] w fun e w' => e = .returned (.int .i64 (pp : Int)) ∧ w' = w) := hat
  have HN : Hid (Calls Try.prog 63 #[qp R, .int .u64 t] w fun e w' => e = .returned (.tuple #[.int .i64 nx, .bool true]) ∧ ∃ m, w' = w.drewN m) := hnx
  clear h hat hi hnx hr ok
  have i0 : ¬ (pp : Int) < 0 := by omega
  go_enter Try.func49, Try.ntmps49
  go_wp2_with (go_at_call 62; refine HA.out.mono ?_; rintro e w' ⟨rfl, rfl⟩)
  refine HN.out.mono ?_
  rintro e w1 ⟨rfl, m, hm⟩
  have HM : Hid (Below w'.heap.size w' w1) := by subst hm; exact below_drawn m
  clear hm HN HA
  go_wp2_with fail
  refine (rready_at (H.out.1.later HM.out) H.out.2 hn t).mono ?_
  rintro e w2 ⟨rfl, hb2⟩
  rw [HRD.out]
  have HM2 : Hid (Below w'.heap.size w' w2) := below_then HM.out hb2
  clear hb2 HM
  go_wp2
  go_ret2
  exact ⟨rfl, HM2.out⟩
/-- the list with one more block locked -/
theorem rl_taken {w2 w4 : World} {p1 : Option Addr} {g1 c1 : Nat} {t : Int} (h : RL w G R v a es) (hR : ¬ G R) (ok : Ok a) (hi : isIn a.L t = true) (hb : Below w.heap.size w w2) (hp : p1 = some ⟨g1, 0, none⟩) (hF : O.FR w2 w4 0 97 3 (.slice p1 es.length c1) es.length (rcs es)) :
    RAf w ((w4.setCell ⟨R, 2, none⟩ (.slice p1 es.length c1)).setCell ⟨g1, posE t a.L * 3 + 2, none⟩ (.int .i64 ((ent a.L t).d + 1 : Int))) G R ⟨a.bl, a.last, a.L.map (bmp t)⟩ := by
  subst hp
  have hb4 : Below w.heap.size w w4 := below_then hb hF.below
  have h4 := h.later hb4
  obtain ⟨hk, e⟩ := posE_at hi
  have hk' : posE t a.L < es.length := by rw [h.len]; exact hk
  have hg1 : w2.heap.size ≤ g1 := hF.new g1 rfl
  have hgR : g1 ≠ R := by have := h.lt; have := hb.size; omega
  have k5 := Kept.setCell (w := w4) R 2 (.slice (some ⟨g1, 0, none⟩) es.length c1)
  have k6 := Kept.setCell (w := w4.setCell ⟨R, 2, none⟩ (.slice (some ⟨g1, 0, none⟩) es.length c1)) g1 (posE t a.L * 3 + 2) (.int .i64 ((ent a.L t).d + 1 : Int))
  obtain ⟨w5, hw5⟩ : ∃ w5, w5 = w4.setCell ⟨R, 2, none⟩ (.slice (some ⟨g1, 0, none⟩) es.length c1) := ⟨_, rfl⟩
  have st5 : w5.heap[R]? = some (.cells (rcells a (.slice (some ⟨g1, 0, none⟩) es.length c1)) 103 (0, 0)) := by rw [hw5, st_set 2 _ h4.st]; rfl
  rw [← hw5] at k5 k6 ⊢
  have r5 : w5.ownsRow 0 97 3 (.slice (some ⟨g1, 0, none⟩) es.length c1) es.length (rcs es) := O.own_far hF.own k5 fun g hg e => hgR (by simp [Value.ownBlock] at hg; omega)
  have r6 := O.own_set r5 (g := g1) rfl (posE t a.L * 3 + 2) (.int .i64 ((ent a.L t).d + 1 : Int))
  have kk : Kept (· = R) w (w5.setCell ⟨g1, posE t a.L * 3 + 2, none⟩ (.int .i64 ((ent a.L t).d + 1 : Int))) := by
    have hh : Kept (· = R) w w5 := (Kept.of_below _ hb4).trans k5 (fun _ _ e => e)
    exact hh.trans k6 (fun x hx e => by have := hb.size; omega)
  have hm := h.mi.get _ hk hk'
  rw [e] at hm
  have ed : (rcs es).set (posE t a.L * 3 + 2) (.int .i64 ((ent a.L t).d + 1 : Int)) = rcs (es.set (posE t a.L) { es[posE t a.L] with d := (ent a.L t).d + 1 }) := by
    have := rcs_set es (posE t a.L) hk' ((ent a.L t).d + 1)
    rw [← this]; rfl
  refine ⟨⟨.slice (some ⟨g1, 0, none⟩) es.length c1, es.set (posE t a.L) { es[posE t a.L] with d := (ent a.L t).d + 1 }, ?_, ?_, ?_, fun g hg => ?_⟩, kk⟩
  · exact (k6.block R (Array.getElem?_eq_some_iff.1 st5).1 (fun e => hgR e.symm)).trans st5
  · rw [List.length_set, ← ed]; exact r6
  · show Mis _ _ (a.L.map (bmp t)) _
    rw [bmp_pos ok.rise hi]
    refine (h.mi.turn hR kk).set _ ?_
    have hm' := (hm.kept (G' := Gp w (w5.setCell ⟨g1, posE t a.L * 3 + 2, none⟩ (.int .i64 ((ent a.L t).d + 1 : Int))) G) (fun g hg hl => kk.block g hl fun e => hR (e ▸ hg)) fun _ hg => .inl hg)
    have et := (isIn_ent hi).2.2
    exact ⟨by rw [show (es[posE t a.L]).t = (ent a.L t).t from hm'.t, et], hm'.f, hm'.g, rfl⟩
  · have := hF.new g hg
    have := (r6.lt g hg).2
    exact .inr ⟨by have := hb.size; omega, this⟩
set_option maxHeartbeats 4000000 in
set_option maxRecDepth 100000 in
theorem rtake_ok (h : RL w G R v a es) (hR : ¬ G R) (ok : Ok a) (hn : a.L.length ≤ 9000) {t : Int} (h0 : takE a.L t = 0) : Calls Try.prog 49 #[qp R, .int .u64 t] w fun e w' => e = .returned (.tuple #[.int .i64 (ent a.L t).nx, .int .i64 0]) ∧ RAf w w' G R ⟨a.bl, a.last, a.L.map (bmp t)⟩ := by
  obtain ⟨hi, hb, hr⟩ := takE_zero.1 h0
  have hat := rat_at h (by omega) t
  have hnx := rnext_at h ok (by omega) t
  have H : Hid (RL w G R v a es ∧ Ok a) := ⟨h, ok⟩
  have HRD : Hid (rdyS a.L t = true) := hr
  have hd := ent_don ok t
  have hl := ent_len ok t
  have HT : Hid (∀ (w2 w4 : World) (p1 : Option Addr) (g1 c1 : Nat), Below w.heap.size w w2 → p1 = some ⟨g1, 0, none⟩ → O.FR w2 w4 0 97 3 (.slice p1 es.length c1) es.length (rcs es) → RAf w ((w4.setCell ⟨R, 2, none⟩ (.slice p1 es.length c1)).setCell ⟨g1, posE t a.L * 3 + 2, none⟩ (.int .i64 ((ent a.L t).d + 1 : Int))) G R ⟨a.bl, a.last, a.L.map (bmp t)⟩) := fun w2 w4 p1 g1 c1 => rl_taken h hR ok hi
  obtain ⟨hk, he⟩ := posE_at hi
  have hk' : posE t a.L < es.length := by rw [h.len]; exact hk
  have HD : Hid (es[posE t a.L].d = (ent a.L t).d) := by have := h.mi.get _ hk hk'; rw [he] at this; exact this.d
  rw [atN_yes hi] at hat
  rw [hb] at hnx
  have hle : es.length ≤ 9000 := by rw [h.len]; omega
  obtain ⟨p, c, e0, -⟩ := O.own_form h.row
  subst e0
  clear hb he hk
  generalize (ent a.L t).s.length = sl at *
  generalize (ent a.L t).d = dd at *
  generalize (ent a.L t).nx = nx at *
  generalize posE t a.L = pp at *
  have HA : Hid (Calls Try.prog 62 #[qp R, .int .u64 t] w fun e w' => e = .returned (.int .i64 (pp : Int)) ∧ w' = w) := hat
  have HN : Hid (Calls Try.prog 63 #[qp R, .int .u64 t] w fun e w' => e = .returned (.tuple #[.int .i64 nx, .bool true]) ∧ ∃ m, w' = w.drewN m) := hnx
  clear h hat hi hnx hr ok h0
  have i0 : ¬ (pp : Int) < 0 := by omega
  have i1 : (pp : Int) < (es.length : Int) := by omega
  go_enter Try.func49, Try.ntmps49
  go_wp2_with (go_at_call 62; refine HA.out.mono ?_; rintro e w' ⟨rfl, rfl⟩)
  refine HN.out.mono ?_
  rintro e w1 ⟨rfl, m, hm⟩
  have HM : Hid (Below w'.heap.size w' w1) := by subst hm; exact below_drawn m
  clear hm HN HA
  go_wp2_with fail
  refine (rready_at (H.out.1.later HM.out) H.out.2 hn t).mono ?_
  rintro e w2 ⟨rfl, hb2⟩
  rw [HRD.out]
  have HM2 : Hid (Below w'.heap.size w' w2) := below_then HM.out hb2
  clear hb2 HM
  have h2 : Hid (RL w2 G R (.slice p es.length c) a es) := H.out.1.later HM2.out
  have c2 : w2.cell? ⟨R, 2, none⟩ = some (.slice p es.length c) := h2.out.c 2
  have HRl : Hid (R < w2.heap.size) := h2.out.lt
  have F0 : Hid (O.FR w2 (w2.alloc (.cells #[] 97)) 0 97 3 (.slice (some ⟨w2.heap.size, 0, none⟩) 0 0) 0 []) := O.FR.empty 97 3 (Below.refl _ _) (Nat.zero_le _)
  have e2 : (w2.alloc (.cells #[] 97)).cell? ⟨R, 2, none⟩ = some (.slice p es.length c) := ((below_alloc w2 _).cell (p := ⟨R, 2, none⟩) HRl.out).trans c2
  go_upto_region 11 with (at_builtin; refine O.wpList_own_any rfl (.tmp 29) (.tmp 33) O.elE rfl rfl F0.out.own rfl (O.own_later h2.out.row F0.out.below) (ones_r es) (by omega) (Nat.zero_le _) ?_; intro v1 w4 ho hk hv; have F1 : Hid (O.FR w2 w4 0 97 3 v1 es.length (rcs es)) := (by have h := F0.out.app ho hk hv; rw [Nat.zero_add, List.nil_append] at h; exact h); clear ho hk hv; obtain ⟨p1, c1, ef, hcap, hg⟩ := O.own_form F1.out.own; obtain ⟨g1, hg1⟩ := hg (by omega); subst ef; subst hg1; clear hg; have d2 : w4.cell? ⟨R, 2, none⟩ = some (.slice p es.length c) := (F1.out.below.cell (p := ⟨R, 2, none⟩) HRl.out).trans c2; have S4 : Hid (w4.heap[R]? = some (.cells (rcells a (.slice p es.length c)) 103 (0, 0))) := (F1.out.below.block R HRl.out).trans h2.out.st; have f2 : w4.frozen? ⟨R, 2, none⟩ = false := by simp [World.frozen?, S4.out])
  have HFin : Hid (RAf w' ((w4.setCell ⟨R, 2, none⟩ (.slice (some ⟨g1, 0, none⟩) es.length c1)).setCell ⟨g1, pp * 3 + 2, none⟩ (.int .i64 ((dd : Int) + 1))) G R ⟨a.bl, a.last, a.L.map (bmp t)⟩) := HT.out w2 w4 _ g1 c1 HM2.out rfl F1.out
  have k5 := Kept.setCell (w := w4) R 2 (.slice (some ⟨g1, 0, none⟩) es.length c1)
  have st5 : (w4.setCell ⟨R, 2, none⟩ (.slice (some ⟨g1, 0, none⟩) es.length c1)).heap[R]? = some (.cells (rcells a (.slice (some ⟨g1, 0, none⟩) es.length c1)) 103 (0, 0)) := by rw [st_set 2 _ S4.out]; rfl
  have r5 : (w4.setCell ⟨R, 2, none⟩ (.slice (some ⟨g1, 0, none⟩) es.length c1)).ownsRow 0 97 3 (.slice (some ⟨g1, 0, none⟩) es.length c1) es.length (rcs es) := O.own_far F1.out.own k5 fun g hg e => by have := F1.out.new g hg; have := HRl.out; omega
  clear k5 F0 F1 d2 f2 S4 e2 c2 h2 HT
  generalize w4.setCell ⟨R, 2, none⟩ (.slice (some ⟨g1, 0, none⟩) es.length c1) = w5 at *
  have y2 : w5.cell? ⟨R, 2, none⟩ = some (.slice (some ⟨g1, 0, none⟩) es.length c1) := cell_of_row _ R 2 _ 103 (0, 0) st5
  have y3 := (erow_cell r5 hk').2.2
  rw [HD.out] at y3
  have y4 := O.own_free r5 (pp * 3 + 2)
  clear st5 r5
  go_wp2_with fail
  go_ret2
  exact ⟨rfl, HFin.out⟩
theorem rtake_at (h : RL w G R v a es) (hR : ¬ G R) (ok : Ok a) (hn : a.L.length ≤ 9000) (t : Int) : Calls Try.prog 49 #[qp R, .int .u64 t] w fun e w' => e = .returned (.tuple #[.int .i64 (takN a.L t), .int .i64 (takE a.L t)]) ∧ RAf w w' G R (takS a t) := by
  by_cases h0 : takE a.L t = 0
  · have e1 : takN a.L t = (ent a.L t).nx := by simp [takN, h0]
    have e2 : takS a t = ⟨a.bl, a.last, a.L.map (bmp t)⟩ := by simp [takS, takL, h0]
    rw [e1, e2, h0]
    exact rtake_ok h hR ok hn h0
  · have e1 : takN a.L t = 0 := by simp [takN, h0]
    have e2 : takS a t = a := by simp [takS, takL, h0]
    rw [e1, e2]
    cases hi : isIn a.L t with
    | false =>
      have : takE a.L t = 110 := by simp [takE, hi]
      rw [this]
      exact (rtake_out h hn hi).mono fun e w' ⟨h1, h2⟩ => ⟨h1, RAf.same h h2⟩
    | true =>
      cases hb : (ent a.L t).nxB with
      | false =>
        have : takE a.L t = 180 := by simp [takE, hi, hb]
        rw [this]
        exact (rtake_full h ok hn hi hb).mono fun e w' ⟨h1, h2⟩ => ⟨h1, RAf.same h h2⟩
      | true =>
        cases hr : rdyS a.L t with
        | false =>
          have : takE a.L t = 130 := by simp [takE, hi, hb, hr]
          rw [this]
          exact (rtake_wait h ok hn hi hb hr).mono fun e w' ⟨h1, h2⟩ => ⟨h1, RAf.same h h2⟩
        | true => exact absurd (takE_zero.2 ⟨hi, hb, hr⟩) h0
end
end Go.Proofs.Ytkffmglcllhbmaa
