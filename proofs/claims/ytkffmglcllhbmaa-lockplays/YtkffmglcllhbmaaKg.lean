/-
  Layer 14: Take.
-/
import Derived.Test.YtkffmglcllhbmaaKf
namespace Go.Proofs.Ytkffmglcllhbmaa
open Go.RowKit


section
variable {w : World} {F : Ft} {n : Nat} {a : Lk}
theorem two_set1 {w : World} {g : Nat} {x y : Value} {ty : TypeId} (h : w.heap[g]? = some (.cells #[x, y] ty (0, 0))) (z : Value) : (w.setCell ⟨g, 1, none⟩ z).heap[g]? = some (.cells #[x, z] ty (0, 0)) := by
  rw [setCell_eq_setRow w g 1 _ ty (0, 0) z h]
  exact setRow_heap w g _ _ ty _ h
theorem PL.taken {w5 w6 : World} {t : Int} {p : Option Addr} {c : Nat} (h : PL w F n a) (h0 : takE a.L t = 0) (hb5 : Below w.heap.size w w5) (hfr : Frm w5 (.slice p (ent a.L t).s.length c) (ent a.L t).s) (hg : ∀ g, blk (.slice p (ent a.L t).s.length c) = some g → F.G g)
    (hm6 : VMp w6 F.mb (n + 1) (fun u => if u = t then some (cv (.slice p (ent a.L t).s.length c) ((ent a.L t).d + 1)) else F.m u)) (hk6 : Kept (· = F.mb) w5 w6) :
    ∃ F2, PL w6 F2 (n + 1) ⟨a.bl, a.last, a.L.map (bmp t)⟩ ∧ Kept (F.has a.bl) w w6 ∧ Grw w w6 a.bl F F2 := by
  have h5 := h.later hb5
  obtain ⟨M, hM, hT⟩ := h5.trn
  have km5 := h5.km
  have hi5 : ∀ g, kd w5 g = 3 → ¬ g = F.mb := fun g hg e => by rw [e, km5] at hg; cases hg
  have hQ := hT.pq.mapped hk6 km5
  have hin := (takE_zero.1 h0).1
  refine ⟨{ F with m := fun u => if u = t then some (cv (.slice p (ent a.L t).s.length c) ((ent a.L t).d + 1)) else F.m u }, ⟨hQ.st, hQ.qs, fun i hi => ⟨M i, hM i hi, ?_⟩, ?_, ⟨hm6, fun u hu hin' => ?_, fun e' he' => ?_⟩, h.ok.bump h0, by have := h.len; simp; omega, hQ.qq, hQ.qt, hQ.vv, hQ.vt⟩, (Kept.of_below _ hb5).trans hk6 (fun x _ e => .inr (.inr (.inr (.inr (.inr (.inr e)))))), ⟨rfl, fun _ hb => .inl hb, fun _ hb => .inl hb⟩⟩
  · show QAt _ _ _ _ (qS (a.L.map (bmp t)) i) _
    rw [qS_bmp]; exact hQ.lq i hi
  · show QAt _ _ _ _ (tix (a.L.map (bmp t))) _
    rw [tix_bmp]; exact hQ.lt'
  · have hi : isIn a.L u = false := by
      cases hi : isIn a.L u with
      | false => rfl
      | true =>
        have : isIn (a.L.map (bmp t)) u = true := isIn_iff.2 (by rw [tix_bmp]; exact isIn_iff.1 hi)
        rw [hin'] at this; cases this
    have hut : u ≠ t := fun e => by rw [e, hin] at hi; cases hi
    show (if u = t then _ else F.m u) = none
    rw [if_neg hut]
    exact h.cm.out u hu hi
  · obtain ⟨e, he, rfl⟩ := List.mem_map.1 he'
    rw [bmp_t, bmp_s]
    by_cases ht : e.t = t
    · have h1 := isIn_ent hin
      have h2 : e = ent a.L t := one_of h.ok.rise he h1.2.1 (by rw [ht, h1.2.2])
      have h3 : (bmp t e).d = (ent a.L t).d + 1 := by rw [← h2]; simp [bmp, ht]
      refine ⟨p, c, ?_, ?_, ?_⟩
      · show (if e.t = t then _ else F.m e.t) = _
        rw [if_pos ht, h3, h2]
      · rw [h2]; exact hfr.far hk6 (fun g _ hg => hi5 g hg)
      · rw [h2]; exact hg
    · have h3 : (bmp t e).d = e.d := by simp [bmp, ht]
      obtain ⟨p', c', e1, e2, e3⟩ := h5.cm.ins e he
      refine ⟨p', c', ?_, e2.far hk6 (fun g _ hg => hi5 g hg), e3⟩
      show (if e.t = t then _ else F.m e.t) = _
      rw [if_neg ht, h3]; exact e1
set_option maxHeartbeats 2000000 in
set_option maxRecDepth 100000 in
theorem take_nil (w : World) (t : Int) : Calls Try.prog 12 #[nilq, .int .u64 t] w fun e w' => e = .returned (.tuple #[.int .i64 0, .int .i64 1]) ∧ Below w.heap.size w w' := by
  have HE : Hid (B.nextS [] 0 = (0, false)) := rfl
  go_enter Try.func12, Try.ntmps12
  go_wp2_with (first | (go_at_call 35; refine (claimOf_nil w t).mono ?_; rintro e w1 ⟨rfl, h2⟩; have H1 : Hid (Below w.heap.size w w1) := h2; clear h2) | (go_at_call 36; refine (B.next_is _ _ _ [] _ _ (B.IIn.nil _ _)).mono ?_; rw [HE.out]; rintro e w2 ⟨rfl, rfl⟩))
  go_ret2
  exact ⟨rfl, below_then H1.out (below_alloc _ _)⟩
set_option maxHeartbeats 2000000 in
set_option maxRecDepth 100000 in
theorem take_out (h : PL w F n a) (hn : n ≤ 10000) {t : Int} (ht : U64 t) (hin : isIn a.L t = false) : Calls Try.prog 12 #[qp F.Q, .int .u64 t] w fun e w' => e = .returned (.tuple #[.int .i64 0, .int .i64 110]) ∧ Below w.heap.size w w' := by
  have HIN : Hid (isIn a.L t = false) := hin
  have HE : Hid (B.nextS (ent a.L t).s ((ent a.L t).d : Int) = (0, false)) := by show _ = _; rw [ent_nx, (out_nx hin).1, (out_nx hin).2.1]
  have hnn := hn
  go_enter Try.func12, Try.ntmps12
  go_wp2_with (first
    | (go_at_call 35; refine (claimOf_at h ht).mono ?_; rintro e w1 ⟨p, c, rfl, h1, hg, h2⟩; obtain ⟨p', c', e', hI, hkc, hp0⟩ := h1.read; simp only [Value.slice.injEq] at e'; obtain ⟨rfl, _, rfl⟩ := e'; have H1 : Hid (B.IIn w1 p (ent a.L t).s.length (ent a.L t).s ∧ Below w.heap.size w w1 ∧ Frm w1 (.slice p (ent a.L t).s.length c) (ent a.L t).s ∧ (∀ g, blk (.slice p (ent a.L t).s.length c) = some g → F.G g)) := ⟨hI, h2, h1, hg⟩; have H : Hid (PL w F n a) := h; clear h1 h2 h hI hg hkc hp0; rw [HIN.out])
    | (go_at_call 36; refine (B.next_is _ _ _ (ent a.L t).s _ _ (H1.out.1.later (below_alloc _ _))).mono ?_; rw [HE.out]; rintro e w2 ⟨rfl, rfl⟩))
  go_ret2
  exact ⟨rfl, below_then H1.out.2.1 (below_alloc _ _)⟩
set_option maxHeartbeats 2000000 in
set_option maxRecDepth 100000 in
theorem take_full (h : PL w F n a) (hn : n ≤ 10000) {t : Int} (ht : U64 t) (hin : isIn a.L t = true) (hx : (ent a.L t).nxB = false) : Calls Try.prog 12 #[qp F.Q, .int .u64 t] w fun e w' => e = .returned (.tuple #[.int .i64 0, .int .i64 180]) ∧ Below w.heap.size w w' := by
  have HIN : Hid (isIn a.L t = true) := hin
  have HE : Hid (B.nextS (ent a.L t).s ((ent a.L t).d : Int) = ((ent a.L t).nx, false)) := by show _ = _; rw [ent_nx, hx]
  have hnn := hn
  go_enter Try.func12, Try.ntmps12
  go_wp2_with (first
    | (go_at_call 35; refine (claimOf_at h ht).mono ?_; rintro e w1 ⟨p, c, rfl, h1, hg, h2⟩; obtain ⟨p', c', e', hI, hkc, hp0⟩ := h1.read; simp only [Value.slice.injEq] at e'; obtain ⟨rfl, _, rfl⟩ := e'; have H1 : Hid (B.IIn w1 p (ent a.L t).s.length (ent a.L t).s ∧ Below w.heap.size w w1 ∧ Frm w1 (.slice p (ent a.L t).s.length c) (ent a.L t).s ∧ (∀ g, blk (.slice p (ent a.L t).s.length c) = some g → F.G g)) := ⟨hI, h2, h1, hg⟩; have H : Hid (PL w F n a) := h; clear h1 h2 h hI hg hkc hp0; rw [HIN.out])
    | (go_at_call 36; refine (B.next_is _ _ _ (ent a.L t).s _ _ (H1.out.1.later (below_alloc _ _))).mono ?_; rw [HE.out]; rintro e w2 ⟨rfl, rfl⟩))
  go_ret2
  exact ⟨rfl, below_then H1.out.2.1 (below_alloc _ _)⟩
set_option maxHeartbeats 2000000 in
set_option maxRecDepth 100000 in
theorem take_wait (h : PL w F n a) (hn : n ≤ 10000) {t : Int} (ht : U64 t) (hin : isIn a.L t = true) (hx : (ent a.L t).nxB = true) (hr : rdyS a.L t = false) : Calls Try.prog 12 #[qp F.Q, .int .u64 t] w fun e w' => e = .returned (.tuple #[.int .i64 0, .int .i64 130]) ∧ Below w.heap.size w w' := by
  have HIN : Hid (isIn a.L t = true) := hin
  have HRD : Hid (rdyS a.L t = false) := hr
  have HE : Hid (B.nextS (ent a.L t).s ((ent a.L t).d : Int) = ((ent a.L t).nx, true)) := by show _ = _; rw [ent_nx, hx]
  go_enter Try.func12, Try.ntmps12
  go_wp2_with (first
    | (go_at_call 35; refine (claimOf_at h ht).mono ?_; rintro e w1 ⟨p, c, rfl, h1, hg, h2⟩; obtain ⟨p', c', e', hI, hkc, hp0⟩ := h1.read; simp only [Value.slice.injEq] at e'; obtain ⟨rfl, _, rfl⟩ := e'; have H1 : Hid (B.IIn w1 p (ent a.L t).s.length (ent a.L t).s ∧ Below w.heap.size w w1 ∧ Frm w1 (.slice p (ent a.L t).s.length c) (ent a.L t).s ∧ (∀ g, blk (.slice p (ent a.L t).s.length c) = some g → F.G g)) := ⟨hI, h2, h1, hg⟩; have H : Hid (PL w F n a) := h; clear h1 h2 h hI hg hkc hp0; rw [HIN.out])
    | (go_at_call 36; refine (B.next_is _ _ _ (ent a.L t).s _ _ (H1.out.1.later (below_alloc _ _))).mono ?_; rw [HE.out]; rintro e w2 ⟨rfl, rfl⟩)
    | (go_at_call 11; refine (ready_at ((H.out.later H1.out.2.1).later (below_alloc _ _)) hn ht).mono ?_; rw [HRD.out]; rintro e w3 ⟨rfl, h3⟩; have H3 : Hid (Below w.heap.size w w3) := below_then (below_then H1.out.2.1 (below_alloc _ _)) h3; clear h3))
  go_ret2
  exact ⟨rfl, H3.out⟩
set_option maxHeartbeats 2000000 in
set_option maxRecDepth 100000 in
theorem take_ok (h : PL w F n a) (hn : n < 10000) {t : Int} (ht : U64 t) (h0 : takE a.L t = 0) : Calls Try.prog 12 #[qp F.Q, .int .u64 t] w fun e w' => e = .returned (.tuple #[.int .i64 (ent a.L t).nx, .int .i64 0]) ∧ ∃ F', PL w' F' (n + 1) ⟨a.bl, a.last, a.L.map (bmp t)⟩ ∧ Kept (F.has a.bl) w w' ∧ Grw w w' a.bl F F' := by
  have h00 := takE_zero.1 h0
  have HIN : Hid (isIn a.L t = true) := h00.1
  have HRD : Hid (rdyS a.L t = true) := h00.2.2
  have HE : Hid (B.nextS (ent a.L t).s ((ent a.L t).d : Int) = ((ent a.L t).nx, true)) := by show _ = _; rw [ent_nx, h00.2.1]
  have H0 : Hid (takE a.L t = 0) := h0
  have hdl : (ent a.L t).d ≤ 64 := by have := ent_don h.ok t; have := ent_len h.ok t; omega
  have hw : IntKind.i64.wrap (((ent a.L t).d : Int) + 1) = ((ent a.L t).d : Int) + 1 := by rw [IntKind.wrap_i64]; omega
  clear h00 h0
  go_enter Try.func12, Try.ntmps12
  go_wp2_with (first
    | (go_at_call 35; refine (claimOf_at h ht).mono ?_; rintro e w1 ⟨p, c, rfl, h1, hg, h2⟩; obtain ⟨p', c', e', hI, hkc, hp0⟩ := h1.read; simp only [Value.slice.injEq] at e'; obtain ⟨rfl, _, rfl⟩ := e'; have H1 : Hid (B.IIn w1 p (ent a.L t).s.length (ent a.L t).s ∧ Below w.heap.size w w1 ∧ Frm w1 (.slice p (ent a.L t).s.length c) (ent a.L t).s ∧ (∀ g, blk (.slice p (ent a.L t).s.length c) = some g → F.G g)) := ⟨hI, h2, h1, hg⟩; have H : Hid (PL w F n a) := h; clear h1 h2 h hI hg hkc hp0; rw [HIN.out])
    | (go_at_call 36; refine (B.next_is _ _ _ (ent a.L t).s _ _ (H1.out.1.later (below_alloc _ _))).mono ?_; rw [HE.out]; rintro e w2 ⟨rfl, rfl⟩))
  have HT : Hid (PL (w1.alloc (.cells #[.slice p (ent a.L t).s.length c, .int .i64 (ent a.L t).d] 75)) F n a) := (H.out.later H1.out.2.1).later (below_alloc _ _)
  have HG0 := heap_alloc_new w1 (.cells #[.slice p (ent a.L t).s.length c, .int .i64 (ent a.L t).d] 75)
  have HBw : Hid (Below w.heap.size w (w1.alloc (.cells #[.slice p (ent a.L t).s.length c, .int .i64 (ent a.L t).d] 75)) ∧ w.heap.size ≤ w1.heap.size) := ⟨below_then H1.out.2.1 (below_alloc _ _), H1.out.2.1.size⟩
  have HFr : Hid (Frm (w1.alloc (.cells #[.slice p (ent a.L t).s.length c, .int .i64 (ent a.L t).d] 75)) (.slice p (ent a.L t).s.length c) (ent a.L t).s ∧ (∀ g, blk (.slice p (ent a.L t).s.length c) = some g → F.G g)) := ⟨H1.out.2.2.1.later (below_alloc _ _), H1.out.2.2.2⟩
  have hgs : w1.heap.size < (w1.alloc (.cells #[.slice p (ent a.L t).s.length c, .int .i64 (ent a.L t).d] 75)).heap.size := by simp
  clear H1
  generalize w1.alloc (.cells #[.slice p (ent a.L t).s.length c, .int .i64 (ent a.L t).d] 75) = W2 at *
  generalize w1.heap.size = g at *
  refine (ready_at HT.out (by omega) ht).mono ?_
  rw [HRD.out]
  rintro e w3 ⟨rfl, hb3⟩
  have st3 : w3.heap[g]? = some (.cells #[.slice p (ent a.L t).s.length c, .int .i64 (ent a.L t).d] 75 (0, 0)) := (hb3.block g hgs).trans HG0
  have d1 : w3.cell? ⟨g, 1, none⟩ = some (.int .i64 (ent a.L t).d) := by rw [cell_of_row _ g 1 _ 75 (0, 0) st3]; rfl
  have fg : w3.frozen? ⟨g, 1, none⟩ = false := by simp [World.frozen?, st3]
  have st4 : Hid ((w3.setCell ⟨g, 1, none⟩ (.int .i64 (((ent a.L t).d : Int) + 1))).heap[g]? = some (.cells #[.slice p (ent a.L t).s.length c, .int .i64 (((ent a.L t).d : Int) + 1)] 75 (0, 0))) := two_set1 st3 _
  have HB3 : Hid (Below w.heap.size w w3 ∧ w.heap.size ≤ g) := ⟨below_then HBw.out.1 hb3, HBw.out.2⟩
  have HFr3 : Hid (Frm w3 (.slice p (ent a.L t).s.length c) (ent a.L t).s) := HFr.out.1.later hb3
  have HB4 : Hid (Below w.heap.size w (w3.setCell ⟨g, 1, none⟩ (.int .i64 (((ent a.L t).d : Int) + 1)))) := HB3.out.1.setCell (p := ⟨g, 1, none⟩) HB3.out.2 _
  have HFr4 : Hid (Frm (w3.setCell ⟨g, 1, none⟩ (.int .i64 (((ent a.L t).d : Int) + 1))) (.slice p (ent a.L t).s.length c) (ent a.L t).s) := HFr3.out.far (Kept.setCell g 1 _) (fun g' _ h3 => ne_kd h3 (kd_cells st3) (by decide))
  clear HG0 HBw hgs hb3 HT HFr3 st3 HB3
  go_wp2_with fail
  clear d1 fg
  generalize w3.setCell ⟨g, 1, none⟩ (.int .i64 (((ent a.L t).d : Int) + 1)) = w4 at *
  have H4 : Hid (PL w4 F n a) := H.out.later HB4.out
  have HFIN : Hid (∀ w6, VMp w6 F.mb (n + 1) (fun u => if u = t then some (cv (.slice p (ent a.L t).s.length c) ((ent a.L t).d + 1)) else F.m u) → Kept (· = F.mb) w4.drew w6 → ∃ F2, PL w6 F2 (n + 1) ⟨a.bl, a.last, a.L.map (bmp t)⟩ ∧ Kept (F.has a.bl) w w6 ∧ Grw w w6 a.bl F F2) := fun w6 hm hk => H.out.taken H0.out (below_then HB4.out (below_drawn 1)) (HFr4.out.later (below_drawn 1)) HFr.out.2 hm hk
  have HV : Hid (VMp w4.drew F.mb n F.m) := (H4.out.later (below_drawn 1)).cm.mp
  have HQm : Hid (F.Q ≠ F.mb) := ne_kd H.out.kQ H.out.km (by decide)
  have Hgm : Hid (g ≠ F.mb) := ne_kd (kd_cells st4.out) H4.out.km (by decide)
  have e0 : w4.drew.cell? ⟨g, 0, none⟩ = some (.slice p (ent a.L t).s.length c) := by have := cell_of_row _ g 0 _ 75 (0, 0) st4.out; exact this
  have e1 : w4.drew.cell? ⟨g, 1, none⟩ = some (.int .i64 (((ent a.L t).d : Int) + 1)) := by have := cell_of_row _ g 1 _ 75 (0, 0) st4.out; exact this
  have e2 : w4.drew.cell? ⟨F.Q, 2, none⟩ = some (.map (some F.mb)) := H4.out.c 2
  clear st4 HFr4 HFr HB4 H4 HIN HRD HE H0 H
  generalize (ent a.L t).s.length = k at *
  generalize (ent a.L t).d = d at *
  refine wp_region_noPanic ?_
  refine wp_region_held_drew (S := fun w' => w'.cell? ⟨F.Q, 2, none⟩ = some (.map (some F.mb)) ∧ w'.cell? ⟨g, 0, none⟩ = some (.slice p k c) ∧ w'.cell? ⟨g, 1, none⟩ = some (.int .i64 ((d : Int) + 1))) (by kernel_rfl) ⟨e2, e0, e1⟩ (fun hHeld => ?_)
  clear e0 e1 e2
  generalize w4.drew = wd at *
  refine wpAnyH_take (i := 0) (v := ?va1) (by simp; rfl) (by kernel_rfl) (by kernel_rfl) (by kernel_rfl) (fun _ _ _ h => h) (Or.inl ⟨by rfl, ?ya1⟩) hHeld ?ra1
  case ya1 => intro w hSw; clear hSw; go_simp; with_reducible rfl
  simp only [Act.put, List.setIfInBounds_toArray, List.set_cons_zero, List.set_cons_succ]
  refine wpAnyH_take (i := 1) (v := ?va2) (by simp; rfl) (by kernel_rfl) (by kernel_rfl) (by kernel_rfl) (fun _ _ _ h => h) (Or.inl ⟨by rfl, ?ya2⟩) hHeld ?ra2
  case ya2 => intro w hSw; clear hSw; go_simp; with_reducible rfl
  simp only [Act.put, List.setIfInBounds_toArray, List.set_cons_zero, List.set_cons_succ]
  refine wpAnyH_take (i := 2) (v := ?va3) (by simp; rfl) (by kernel_rfl) (by kernel_rfl) (by kernel_rfl) (fun _ _ _ h => h) (Or.inl ⟨by rfl, ?ya3⟩) hHeld ?ra3
  case ya3 => intro w hSw; clear hSw; go_simp; with_reducible rfl
  simp only [Act.put, List.setIfInBounds_toArray, List.set_cons_zero, List.set_cons_succ]
  refine wpAnyH_take (i := 3) (v := ?va4) (by simp; rfl) (by kernel_rfl) (by kernel_rfl) (by kernel_rfl) (fun _ _ _ h => h) (Or.inl ⟨by rfl, ?ya4⟩) hHeld ?ra4
  case ya4 => intro w hSw; have z := hSw.1; clear hSw; go_simp; with_reducible rfl
  simp only [Act.put, List.setIfInBounds_toArray, List.set_cons_zero, List.set_cons_succ]
  refine wpAnyH_take (i := 4) (v := ?va5) (by simp; rfl) (by kernel_rfl) (by kernel_rfl) (by kernel_rfl) (fun _ _ _ h => h) (Or.inl ⟨by rfl, ?ya5⟩) hHeld ?ra5
  case ya5 => intro w hSw; clear hSw; go_simp; with_reducible rfl
  simp only [Act.put, List.setIfInBounds_toArray, List.set_cons_zero, List.set_cons_succ]
  refine wpAnyH_take (i := 5) (v := ?va6) (by simp; rfl) (by kernel_rfl) (by kernel_rfl) (by kernel_rfl) (fun _ _ _ h => h) (Or.inl ⟨by rfl, ?ya6⟩) hHeld ?ra6
  case ya6 => intro w hSw; have z0 := hSw.2.1; have z1 := hSw.2.2; clear hSw; go_simp; with_reducible rfl
  simp only [Act.put, List.setIfInBounds_toArray, List.set_cons_zero, List.set_cons_succ]
  refine wpAnyH_ready (rs := [6]) (by kernel_rfl) (by simp) ?_
  refine AllReadyH.cons (by simp; rfl) (fun Kc hKc => ?_) AllReadyH.nil
  obtain ⟨w6, hrun, hm6, hk6⟩ := HV.out.run_put hn ht (.agg #[.slice p k c, .int .i64 ((d : Int) + 1)])
  have H6 : Hid (VMp w6 F.mb (n + 1) (fun u => if u = t then some (cv (.slice p k c) (d + 1)) else F.m u) ∧ Kept (· = F.mb) wd w6) := ⟨hm6, hk6⟩
  have C6 : Hid (w6.cell? ⟨F.Q, 2, none⟩ = some (.map (some F.mb)) ∧ w6.cell? ⟨g, 0, none⟩ = some (.slice p k c) ∧ w6.cell? ⟨g, 1, none⟩ = some (.int .i64 ((d : Int) + 1))) := ⟨(World.cell?_of_block (w := wd) (a := ⟨F.Q, 2, none⟩) (hk6.block _ (World.block_lt_of_cell? wd _ hHeld.1) HQm.out)).trans hHeld.1, (World.cell?_of_block (w := wd) (a := ⟨g, 0, none⟩) (hk6.block _ (World.block_lt_of_cell? wd _ hHeld.2.1) Hgm.out)).trans hHeld.2.1, (World.cell?_of_block (w := wd) (a := ⟨g, 1, none⟩) (hk6.block _ (World.block_lt_of_cell? wd _ hHeld.2.2) Hgm.out)).trans hHeld.2.2⟩
  clear hm6 hk6 hHeld
  go_simp
  refine hKc.out _ _ C6.out (fun hHeld => ?_)
  clear hKc Kc hHeld hrun
  refine wpAnyH_done (by kernel_rfl) (NoPanic.normal ?_) _
  have HP := HFIN.out w6 H6.out.1 H6.out.2
  clear H6 C6 HFIN
  have HP : Hid (∃ F2, PL w6 F2 (n + 1) ⟨a.bl, a.last, a.L.map (bmp t)⟩ ∧ Kept (F.has a.bl) w w6 ∧ Grw w w6 a.bl F F2) := HP
  go_wp2_with fail
  go_ret2
  exact ⟨rfl, HP.out⟩

/-- Take -/
theorem take_at (h : PL w F n a) (hn : n < 10000) {t : Int} (ht : U64 t) : Calls Try.prog 12 #[qp F.Q, .int .u64 t] w fun e w' => e = .returned (.tuple #[.int .i64 (takN a.L t), .int .i64 (takE a.L t)]) ∧ ∃ F', PL w' F' (n + 1) (takS a t) ∧ Kept (F.has a.bl) w w' ∧ Grw w w' a.bl F F' := by
  by_cases h0 : takE a.L t = 0
  · have e1 : takS a t = ⟨a.bl, a.last, a.L.map (bmp t)⟩ := by unfold takS takL; rw [if_pos h0]
    have e2 : takN a.L t = (ent a.L t).nx := if_pos h0
    rw [e1, e2, h0]
    exact take_ok h hn ht h0
  · have e1 : takS a t = a := by unfold takS takL; rw [if_neg h0]
    have e2 : takN a.L t = 0 := if_neg h0
    rw [e1, e2]
    have key : Calls Try.prog 12 #[qp F.Q, .int .u64 t] w fun e w' => e = .returned (.tuple #[.int .i64 0, .int .i64 (takE a.L t)]) ∧ Below w.heap.size w w' := by
      cases hin : isIn a.L t with
      | false => rw [show takE a.L t = 110 by unfold takE; rw [if_pos hin]]; exact take_out h (by omega) ht hin
      | true =>
        cases hx : (ent a.L t).nxB with
        | false => rw [show takE a.L t = 180 by unfold takE; rw [if_neg (by rw [hin]; simp), if_pos hx]]; exact take_full h (by omega) ht hin hx
        | true =>
          cases hr : rdyS a.L t with
          | false => rw [show takE a.L t = 130 by unfold takE; rw [if_neg (by rw [hin]; simp), if_neg (by rw [hx]; simp), if_pos hr]]; exact take_wait h (by omega) ht hin hx hr
          | true => exact absurd (takE_zero.2 ⟨hin, hx, hr⟩) h0
    refine key.mono ?_
    rintro e w' ⟨rfl, hb⟩
    exact ⟨rfl, F, (h.later hb).more, Kept.of_below _ hb, Grw.refl _ _ _ _⟩
end
end Go.Proofs.Ytkffmglcllhbmaa
