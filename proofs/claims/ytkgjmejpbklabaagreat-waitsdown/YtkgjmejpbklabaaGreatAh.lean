/-
  Layer 13: Enter, Copy.
-/
import Derived.Test.YtkgjmejpbklabaaGreatAg
namespace Go.Proofs.YtkgjmejpbklabaaGreat.M
open Go.RowKit
section
variable {w w' : World} {F : Ft} {n : Nat} {a : Ad}
set_option maxHeartbeats 2000000 in
set_option maxRecDepth 100000 in
theorem enter_nil (w : World) : Calls Tryz.prog 32 #[nilq] w fun e w' => e = .returned (.tuple #[.int .u64 0, nils, .int .i64 1]) ∧ w' = w := by
  go_enter Tryz.func32, Tryz.ntmps32
  go_wp2
  go_ret3
  exact ⟨rfl, rfl⟩
set_option maxHeartbeats 2000000 in
set_option maxRecDepth 100000 in
theorem enter_no (h : PL w F n a) (hN : a.next ≤ 1000) (hW : a.isW = false) : Calls Tryz.prog 32 #[qp F.Q] w fun e w' => e = .returned (.tuple #[.int .u64 0, nils, .int .i64 110]) ∧ Below w.heap.size w w' := by
  have HC := first_at h hN
  rw [hW] at HC
  have HC' : Hid (Calls Tryz.prog 41 #[qp F.Q] w fun e w' => ∃ v, e = .returned (.tuple #[.int .u64 a.fT, v, .bool false]) ∧ Frm w' v a.fF ∧ Below w.heap.size w w') := HC
  clear HC h hW
  go_enter Tryz.func32, Tryz.ntmps32
  go_wp2_with (go_at_call 41; refine HC'.out.mono ?_; rintro e w1 ⟨v, rfl, hfr, hb⟩; have HB : Hid (Below w.heap.size w w1) := hb; clear hfr hb)
  go_ret3
  exact ⟨rfl, HB.out⟩
theorem fi_new {a : Ad} (h : a.Ok) {x : Int × List Int} {r : List (Int × List Int)} (hW : a.W = x :: r) : L.look x.1 (lefts a.I) = none ∧ x.1 ≠ 0 := by
  have h1 := h.win x (by rw [hW]; exact List.mem_cons_self ..)
  have h0 := h.got0
  refine ⟨?_, by omega⟩
  rw [look_lefts, fi_none.2]
  · rfl
  · intro hx
    obtain ⟨y, hy, e⟩ := List.mem_map.1 hx
    have := h.iin y hy
    omega
theorem rsv_yes {a : Ad} (h : a.Ok) {x : Int × List Int} {r : List (Int × List Int)} (hW : a.W = x :: r) (hf : a.fits = true) : L.rsvE a.lg x.1 ((x.2.length : Int) + 1) = 0 ∧ L.rsvS a.lg x.1 ((x.2.length : Int) + 1) = ({ a with W := r, I := a.I ++ [(x.1, x.2, (x.2.length : Int) + 1)], got := x.1 } : Ad).lg := by
  obtain ⟨h1, h2⟩ := fi_new h hW
  have e1 : L.fitsS a.lg ((x.2.length : Int) + 1) = true := by
    have := fits_lg (a := a) (by simp [Ad.isW, hW])
    rw [show a.fF = x.2 by simp [Ad.fF, hW]] at this
    rw [this, hf]
  have e2 : L.rsvE a.lg x.1 ((x.2.length : Int) + 1) = 0 := by
    have e3 : ¬ (x.1 = 0 ∨ (x.2.length : Int) + 1 < 1) := by omega
    have e4 : L.look x.1 a.lg.L = none := h1
    exact L.rsvE_ok e3 e4 e1
  refine ⟨e2, ?_⟩
  rw [L.rsvS_ok e2]
  simp only [Ad.lg, lefts_app]
theorem rsv_no {a : Ad} (h : a.Ok) {x : Int × List Int} {r : List (Int × List Int)} (hW : a.W = x :: r) (hf : a.fits = false) : L.rsvE a.lg x.1 ((x.2.length : Int) + 1) = 120 ∧ L.rsvS a.lg x.1 ((x.2.length : Int) + 1) = a.lg := by
  obtain ⟨h1, h2⟩ := fi_new h hW
  have e1 : L.fitsS a.lg ((x.2.length : Int) + 1) = false := by
    have := fits_lg (a := a) (by simp [Ad.isW, hW])
    rw [show a.fF = x.2 by simp [Ad.fF, hW]] at this
    rw [this, hf]
  have e2 : L.rsvE a.lg x.1 ((x.2.length : Int) + 1) = 120 := by
    have e3 : ¬ (x.1 = 0 ∨ (x.2.length : Int) + 1 < 1) := by omega
    have e4 : L.look x.1 a.lg.L = none := h1
    exact L.rsvE_room e3 e4 e1
  exact ⟨e2, L.rsvS_not (by rw [e2]; decide)⟩
set_option maxHeartbeats 2000000 in
set_option maxRecDepth 100000 in
theorem enter_room (h : PL w F n a) (hn : n < 10000) (hN : a.next ≤ 1000) {x : Int × List Int} {r : List (Int × List Int)} (hW : a.W = x :: r) (hf : a.fits = false) : Calls Tryz.prog 32 #[qp F.Q] w fun e w' => e = .returned (.tuple #[.int .u64 0, nils, .int .i64 120]) ∧ PL w' F (n + 1) a ∧ Kept F.has w w' := by
  have HC := first_at h hN
  have hl := h.ok.flen
  have HU : Hid (L.U64 x.1) := by have h1 := h.ok.win x (by rw [hW]; exact List.mem_cons_self ..); have h0 := h.ok.got0; exact u64_small (by omega) (by omega)
  rw [show a.isW = true by simp [Ad.isW, hW], show a.fT = x.1 by simp [Ad.fT, hW], show a.fF = x.2 by simp [Ad.fF, hW]] at HC
  rw [show a.fF = x.2 by simp [Ad.fF, hW]] at hl
  have HC' : Hid (Calls Tryz.prog 41 #[qp F.Q] w fun e w' => ∃ v, e = .returned (.tuple #[.int .u64 x.1, v, .bool true]) ∧ Frm w' v x.2 ∧ Below w.heap.size w w') := HC
  have HR : Hid (_) := rsv_no h.ok hW hf
  have H : Hid (PL w F n a) := h
  clear HC h hW hf
  go_enter Tryz.func32, Tryz.ntmps32
  go_wp2_with (go_at_call 41; refine HC'.out.mono ?_; rintro e w1 ⟨v, rfl, hfr, hb⟩; obtain ⟨p, c, rfl, -⟩ := hfr.read; have HB : Hid (Below w.heap.size w w1) := hb; clear hfr hb; have hP1 : Hid (PL w1.drew F n a) := (H.out.later HB.out).later (below_drew _); have c9 : w1.drew.cell? ⟨F.Q, 9, none⟩ = some (qp F.lb) := hP1.out.c 9)
  go_region_with (first | (go_at_call 43; refine (reservation_is _ _ _ (by omega) _).mono ?_; rintro e w' ⟨rfl, rfl⟩) | (go_at_call 62; refine (L.reserve_at hP1.out.rm hP1.out.ok.lok hn HU.out ((x.2.length : Int) + 1)).mono ?_; rw [HR.out.1, HR.out.2]; rintro e w2 ⟨rfl, h1, h2⟩; have H2 : Hid (L.LAt w2 F.lb F.lm (n + 1) a.lg ∧ Kept (L.LF F.lb F.lm) w1.drew w2) := ⟨h1, h2⟩; clear h1 h2))
  all_goals (
    clear c9
    go_wp2
    go_ret3
    exact ⟨rfl, hP1.out.led H2.out.2 H2.out.1 (Nat.le_succ _) rfl rfl rfl rfl rfl (fun x hx => hx) hP1.out.ok, ((Kept.of_below _ HB.out).trans (Kept.of_below (fun _ => False) (below_drew w1)) (fun _ _ e => e.elim)).trans H2.out.2 (fun x _ e => PL.hasL F e)⟩)
theorem PL.entered {w2 w3 w4 : World} {x : Int × List Int} {r : List (Int × List Int)} {v1' v2' : Value} (h : PL w F n a) (N : Ne F) (hW : a.W = x :: r) (hk2 : Kept (L.LF F.lb F.lm) w w2) (hr2 : L.LAt w2 F.lb F.lm (n + 1) ({ a with W := r, I := a.I ++ [(x.1, x.2, (x.2.length : Int) + 1)], got := x.1 } : Ad).lg)
    (hQ1 : QAt 59 w3 F.q1 v1' (wt r) (a.next - 1)) (hb1 : blk v1' = blk F.v1) (hk3 : Kept (fun b => b = F.q1 ∨ blk F.v1 = some b) w2 w3) (hQ2 : QAt 59 w4 F.q2 v2' (it a.I ++ [x.1]) x.1) (hk4 : Kept (fun b => b = F.q2 ∨ blk F.v2 = some b) w3 w4) (hv2 : blk v2' = blk F.v2 ∨ ∃ g, blk v2' = some g ∧ w.heap.size ≤ g)
    (ok : ({ a with W := r, I := a.I ++ [(x.1, x.2, (x.2.length : Int) + 1)], got := x.1 } : Ad).Ok) :
    PL w4 { F with v1 := v1', v2 := v2' } (n + 1) { a with W := r, I := a.I ++ [(x.1, x.2, (x.2.length : Int) + 1)], got := x.1 } ∧ Kept F.has w w4 := by
  have hlt : ∀ b, F.has b → b < w.heap.size := fun b hb => h.lt hb
  have kAll : Kept F.has w w4 := ((hk2.wider (T := F.has) (fun x _ e => PL.hasL F e)).trans hk3 (fun x _ e => by rcases e with e | e; exact .inr (.inl e); exact .inr (.inr (.inr (.inl e))))).trans hk4 (fun x _ e => by rcases e with e | e; exact .inr (.inr (.inl e)); exact .inr (.inr (.inr (.inr (.inl e)))))
  have kB : Kept (fun b => F.has b ∧ b ≠ F.mb) w w4 := ((hk2.wider (T := fun b => F.has b ∧ b ≠ F.mb) (fun x _ e => ⟨PL.hasL F e, by rcases e with rfl | rfl; exact Ne.symm N.ml; exact Ne.symm N.mn⟩)).trans hk3 (fun x _ e => by rcases e with rfl | e; exact ⟨.inr (.inl rfl), N.q1m⟩; exact ⟨.inr (.inr (.inr (.inl e))), (N.v1 _ e).2.2.2.1⟩)).trans hk4 (fun x _ e => by rcases e with rfl | e; exact ⟨.inr (.inr (.inl rfl)), N.q2m⟩; exact ⟨.inr (.inr (.inr (.inr (.inl e)))), (N.v2 _ e).2.2.2.1⟩)
  have s2 := hk2.size
  have s3 := hk3.size
  refine ⟨⟨?_, ?_, ?_, ?_, ?_, ok, h.q12, fun g hg => ?_, h.mm⟩, kAll⟩
  · show w4.heap[F.Q]? = _
    refine (hk4.block _ (by have := hlt F.Q (.inl rfl); omega) (by rintro (e | e); exact N.Qq2 e; exact (N.v2 _ e).1 rfl)).trans ((hk3.block _ (by have := hlt F.Q (.inl rfl); omega) (by rintro (e | e); exact N.Qq1 e; exact (N.v1 _ e).1 rfl)).trans ((hk2.block _ (hlt _ (.inl rfl)) (by rintro (e | e); exact N.Ql e; exact N.Qn e)).trans h.st))
  · exact hQ1.far hk4 (by rintro (e | e); exact N.q12 e; exact (N.v2 _ e).2.1 rfl) (fun g hg => by rw [hb1] at hg; rintro (e | e); exact (N.v1 g hg).2.2.1 e; exact N.v12 g hg e)
  · show QAt _ _ _ _ (it (a.I ++ [_])) _
    rw [it_app]
    exact hQ2
  · refine (((h.fm.far kB (fun e => e.2 rfl) (fun g _ hg e => h.noInts hg e.1)).mono (Nat.le_succ n)).sub fun y hy => ?_)
    · simp only [Ad.fl, List.mem_append, List.map_append, List.map_cons, List.map_nil, hW, List.mem_cons, List.not_mem_nil, or_false] at hy ⊢
      rcases hy with hy | hy | hy
      · exact .inl (.inr hy)
      · exact .inr hy
      · exact .inl (.inl hy)
  · exact (hr2.kept (hk3.block _ hr2.lt (by rintro (e | e); exact N.q1l e.symm; exact (N.v1 _ e).2.2.2.2.1 rfl)) (hk3.block _ hr2.mp.lt (by rintro (e | e); exact N.q1n e.symm; exact (N.v1 _ e).2.2.2.2.2 rfl))).kept (hk4.block _ (by have := hr2.lt; omega) (by rintro (e | e); exact N.q2l e.symm; exact (N.v2 _ e).2.2.2.2.1 rfl)) (hk4.block _ (by have := hr2.mp.lt; omega) (by rintro (e | e); exact N.q2n e.symm; exact (N.v2 _ e).2.2.2.2.2 rfl))
  · rw [show ({ F with v1 := v1', v2 := v2' } : Ft).v1 = v1' from rfl, hb1] at hg
    show ¬ blk v2' = some g
    rcases hv2 with e | ⟨g', e, hg'⟩
    · rw [e]; exact h.v12 g hg
    · rw [e]
      intro e2
      cases e2
      have := hlt g (.inr (.inr (.inr (.inl hg))))
      omega
set_option maxHeartbeats 2000000 in
set_option maxRecDepth 100000 in
theorem enter_ok (h : PL w F n a) (hn : n < 10000) (hN : a.next ≤ 1000) {x : Int × List Int} {r : List (Int × List Int)} (hW : a.W = x :: r) (hf : a.fits = true) (ok : ({ a with W := r, I := a.I ++ [(x.1, x.2, (x.2.length : Int) + 1)], got := x.1 } : Ad).Ok) :
    Calls Tryz.prog 32 #[qp F.Q] w fun e w' => ∃ q d v1' v2', e = .returned (.tuple #[.int .u64 x.1, .slice q x.2.length d, .int .i64 0]) ∧ w'.ownsRow w.heap.size 3 1 (.slice q x.2.length d) x.2.length (B.I64 x.2) ∧ PL w' { F with v1 := v1', v2 := v2' } (n + 1) { a with W := r, I := a.I ++ [(x.1, x.2, (x.2.length : Int) + 1)], got := x.1 } ∧ blk v1' = blk F.v1 ∧ (blk v2' = blk F.v2 ∨ ∃ g, blk v2' = some g ∧ w.heap.size ≤ g) ∧ Kept F.has w w' := by
  have HC := first_at h hN
  have hl := h.ok.flen
  have h1 := h.ok.win x (by rw [hW]; exact List.mem_cons_self ..)
  have h0 := h.ok.got0
  have HU : Hid (L.U64 x.1) := u64_small (by omega) (by omega)
  have hgt : ¬ x.1 ≤ a.got := by omega
  have hwl : (wt a.W).length ≤ 1000 := by have := h.ok.wlen; simp only [wt, List.length_map]; omega
  have hil : (it a.I).length ≤ 1000 := by have := h.ok.ilen; simp only [it, List.length_map]; omega
  rw [show a.isW = true by simp [Ad.isW, hW], show a.fT = x.1 by simp [Ad.fT, hW], show a.fF = x.2 by simp [Ad.fF, hW]] at HC
  rw [show a.fF = x.2 by simp [Ad.fF, hW]] at hl
  have HC' : Hid (Calls Tryz.prog 41 #[qp F.Q] w fun e w' => ∃ v, e = .returned (.tuple #[.int .u64 x.1, v, .bool true]) ∧ Frm w' v x.2 ∧ Below w.heap.size w w') := HC
  have HR : Hid (_) := rsv_yes h.ok hW hf
  have H : Hid (PL w F n a) := h
  have N : Hid (Ne F) := h.ne
  have HW : Hid (a.W = x :: r) := hW
  have HO : Hid (({ a with W := r, I := a.I ++ [(x.1, x.2, (x.2.length : Int) + 1)], got := x.1 } : Ad).Ok) := ok
  clear HC h hW hf ok h1 h0
  go_enter Tryz.func32, Tryz.ntmps32
  go_wp2_with (go_at_call 41; refine HC'.out.mono ?_; rintro e w1 ⟨v, rfl, hfr, hb⟩; obtain ⟨p, c, rfl, -⟩ := hfr.read; have HB : Hid (Below w.heap.size w w1 ∧ Frm w1 (.slice p x.2.length c) x.2) := ⟨hb, hfr⟩; clear hfr hb; have hP1 : Hid (PL w1.drew F n a) := (H.out.later HB.out.1).later (below_drew _); have c9 : w1.drew.cell? ⟨F.Q, 9, none⟩ = some (qp F.lb) := hP1.out.c 9)
  go_region_with (first | (go_at_call 43; refine (reservation_is _ _ _ (by omega) _).mono ?_; rintro e w' ⟨rfl, rfl⟩) | (go_at_call 62; refine (L.reserve_at hP1.out.rm hP1.out.ok.lok hn HU.out ((x.2.length : Int) + 1)).mono ?_; rw [HR.out.1]; rintro e w2 ⟨rfl, h1, h2⟩; have H2 : Hid (L.LAt w2 F.lb F.lm (n + 1) (L.rsvS a.lg x.1 ((x.2.length : Int) + 1)) ∧ Kept (L.LF F.lb F.lm) w1.drew w2) := ⟨h1, h2⟩; clear h1 h2))
  all_goals (
    clear c9
    have hst2 : Hid (w2.heap[F.Q]? = some (.cells (lcells F a) 62 (0, 0))) := (H2.out.2.block _ (hP1.out.lt (.inl rfl)) (by rintro (e | e); exact N.out.Ql e; exact N.out.Qn e)).trans hP1.out.st
    have hQ12 : Hid (QAt 59 w2 F.q1 F.v1 (x.1 :: wt r) (a.next - 1)) := by
      have := hP1.out.l1.far H2.out.2 (by rintro (e | e); exact N.out.q1l e; exact N.out.q1n e) (fun g hg => by rintro (e | e); exact (N.out.v1 g hg).2.2.2.2.1 e; exact (N.out.v1 g hg).2.2.2.2.2 e)
      rw [HW.out] at this
      exact this
    have hQ22 : Hid (QAt 59 w2 F.q2 F.v2 (it a.I) a.got) := hP1.out.l2.far H2.out.2 (by rintro (e | e); exact N.out.q2l e; exact N.out.q2n e) (fun g hg => by rintro (e | e); exact (N.out.v2 g hg).2.2.2.2.1 e; exact (N.out.v2 g hg).2.2.2.2.2 e)
    have d6 : w2.cell? ⟨F.Q, 6, none⟩ = some (qp F.q1) := cell_of_row _ F.Q 6 _ 62 (0, 0) hst2.out
    go_wp2_with fail
    clear d6
    refine (take_some hQ12.out (by rw [HW.out] at hwl; simp [wt] at hwl ⊢; omega)).mono ?_
    rintro e w3 ⟨rfl, v1', h1, h2, h3⟩
    have H3 : Hid (QAt 59 w3 F.q1 v1' (wt r) (a.next - 1) ∧ blk v1' = blk F.v1 ∧ Kept (fun b => b = F.q1 ∨ blk F.v1 = some b) w2 w3) := ⟨h1, h2, h3⟩
    clear h1 h2 h3
    have hQlt : Hid (F.Q < w2.heap.size) := (Array.getElem?_eq_some_iff.1 hst2.out).1
    have hst3 : Hid (w3.heap[F.Q]? = some (.cells (lcells F a) 62 (0, 0))) := (H3.out.2.2.block _ hQlt.out (by rintro (e | e); exact N.out.Qq1 e; exact (N.out.v1 _ e).1 rfl)).trans hst2.out
    have hQ23 : Hid (QAt 59 w3 F.q2 F.v2 (it a.I) a.got) := hQ22.out.far H3.out.2.2 (by rintro (e | e); exact N.out.q12 e.symm; exact (N.out.v1 _ e).2.2.1 rfl) (fun g hg => by rintro (e | e); exact (N.out.v2 g hg).2.1 e; exact N.out.v12 g e hg)
    have d7 : w3.cell? ⟨F.Q, 7, none⟩ = some (qp F.q2) := cell_of_row _ F.Q 7 _ 62 (0, 0) hst3.out
    go_wp2_with fail
    clear d7
    refine (put_high hQ23.out x.1 (by omega) (by omega)).mono ?_
    rintro e w4 ⟨rfl, v2', h1, h2, h3⟩
    have H4 : Hid (QAt 59 w4 F.q2 v2' (it a.I ++ [x.1]) x.1 ∧ Kept (fun b => b = F.q2 ∨ blk F.v2 = some b) w3 w4 ∧ (blk v2' = blk F.v2 ∨ ∃ g, blk v2' = some g ∧ w3.heap.size ≤ g)) := ⟨h1, h2, h3⟩
    clear h1 h2 h3
    have hs1 : Hid (w.heap.size ≤ w1.drew.heap.size ∧ w1.drew.heap.size ≤ w3.heap.size) := ⟨(below_then HB.out.1 (below_drew w1)).size, Nat.le_trans H2.out.2.size H3.out.2.2.size⟩
    have HV : Hid (blk v2' = blk F.v2 ∨ ∃ g, blk v2' = some g ∧ w1.drew.heap.size ≤ g) := by
      rcases H4.out.2.2 with e | ⟨g, e, hg⟩
      · exact .inl e
      · exact .inr ⟨g, e, Nat.le_trans hs1.out.2 hg⟩
    have HPL : Hid (PL w4 { F with v1 := v1', v2 := v2' } (n + 1) { a with W := r, I := a.I ++ [(x.1, x.2, (x.2.length : Int) + 1)], got := x.1 } ∧ Kept F.has w1.drew w4) := by
      have hr := H2.out.1
      rw [HR.out.2] at hr
      exact hP1.out.entered N.out HW.out H2.out.2 hr H3.out.1 H3.out.2.1 H3.out.2.2 H4.out.1 H4.out.2.1 HV.out HO.out
    have hfr4 : Hid (Frm w4 (.slice p x.2.length c) x.2) := (HB.out.2.later (below_drew w1)).far HPL.out.2 (fun g _ hg => hP1.out.noInts hg)
    clear hst2 hst3 hQ12 hQ22 hQ23
    go_wp2_with fail
    refine (cloneI_at hfr4.out (by omega)).mono ?_
    rintro e w6 ⟨q', d', rfl, hm6⟩
    have H6 : Hid (B.Made w4 w6 q' x.2.length d' x.2) := hm6
    clear hm6
    go_wp2
    go_ret3
    refine ⟨q', d', v1', v2', rfl, B.own_mono H6.out.own (Nat.le_trans hs1.out.1 HPL.out.2.size), HPL.out.1.later H6.out.below, H3.out.2.1, ?_, (((Kept.of_below _ HB.out.1).trans (Kept.of_below (fun _ => False) (below_drew w1)) (fun _ _ e => e.elim)).trans HPL.out.2 (fun _ _ e => e)).trans (Kept.of_below (fun _ => False) H6.out.below) (fun _ _ e => e.elim)⟩
    rcases HV.out with e | ⟨g, e, hg⟩
    · exact .inl e
    · exact .inr ⟨g, e, Nat.le_trans hs1.out.1 hg⟩)
end
end Go.Proofs.YtkgjmejpbklabaaGreat.M
