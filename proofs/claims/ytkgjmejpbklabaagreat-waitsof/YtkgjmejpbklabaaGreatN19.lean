/-
  Layer 14: Take. Layer 14: Drop. Layer 14: New, Copy.
-/
import Derived.Test.YtkgjmejpbklabaaGreatN18
import Derived.Deep.OwnRows
namespace Go.Proofs.YtkgjmejpbklabaaGreat.K
open Go.RowKit
section
variable {w : World} {F : Ft} {n : Nat} {a : Lk}
theorem two_set1 {w : World} {g : Nat} {x y : Value} {ty : TypeId} (h : w.heap[g]? = some (.cells #[x, y] ty (0, 0))) (z : Value) : (w.setCell ⟨g, 1, none⟩ z).heap[g]? = some (.cells #[x, z] ty (0, 0)) := by
  rw [setCell_eq_setRow w g 1 _ ty (0, 0) z h]
  exact setRow_heap w g _ _ ty _ h
theorem PL.taken {w5 w6 : World} {t : Int} {p : Option Addr} {c : Nat} (h : PL w F n a) (h0 : takE a.L t = 0) (hb5 : Below w.heap.size w w5) (hfr : Frm w5 (.slice p (ent a.L t).s.length c) (ent a.L t).s) (hg : ∀ g, blk (.slice p (ent a.L t).s.length c) = some g → F.G g)
    (hm6 : VMp w6 F.mb (n + 1) (fun u => if u = t then some (cv (.slice p (ent a.L t).s.length c) ((ent a.L t).d + 1)) else F.m u)) (hk6 : Kept (· = F.mb) w5 w6) :
    ∃ F2, PL w6 F2 (n + 1) ⟨a.bl, a.last, a.L.map (bmp t)⟩ ∧ Kept (F.has a.bl) w w6 ∧ Grw w w6 a.bl F F2 := by
  have h5 := h.later hb5
  obtain ⟨M, hM, hT⟩ := h5.trn
  have km5 := h5.km
  have hi5 : ∀ g, kd w5 g = 3 → ¬ g = F.mb := fun g hg e => by rw [e, km5] at hg; cases hg
  have hQ := hT.pq.mapped hk6 km5
  have hin := (takE_zero.1 h0).1
  refine ⟨{ F with m := fun u => if u = t then some (cv (.slice p (ent a.L t).s.length c) ((ent a.L t).d + 1)) else F.m u }, ⟨hQ.st, hQ.qs, fun i hi => ⟨M i, hM i hi, ?_⟩, ?_, ⟨hm6, fun u hu hin' => ?_, fun e' he' => ?_⟩, h.ok.bump h0, by have := h.len; simp; omega, hQ.qq, hQ.qt, hQ.vv, hQ.vt⟩, (Kept.of_below _ hb5).trans hk6 (fun x _ e => .inr (.inr (.inr (.inr (.inr (.inr e)))))), ⟨rfl, fun _ hb => .inl hb, fun _ hb => .inl hb⟩⟩
  · show QAt _ _ _ _ (qS (a.L.map (bmp t)) i) _
    rw [qS_bmp]; exact hQ.lq i hi
  · show QAt _ _ _ _ (tix (a.L.map (bmp t))) _
    rw [tix_bmp]; exact hQ.lt'
  · have hi : isIn a.L u = false := by
      cases hi : isIn a.L u with
      | false => rfl
      | true =>
        have : isIn (a.L.map (bmp t)) u = true := isIn_iff.2 (by rw [tix_bmp]; exact isIn_iff.1 hi)
        rw [hin'] at this; cases this
    have hut : u ≠ t := fun e => by rw [e, hin] at hi; cases hi
    show (if u = t then _ else F.m u) = none
    rw [if_neg hut]
    exact h.cm.out u hu hi
  · obtain ⟨e, he, rfl⟩ := List.mem_map.1 he'
    rw [bmp_t, bmp_s]
    by_cases ht : e.t = t
    · have h1 := isIn_ent hin
      have h2 : e = ent a.L t := one_of h.ok.rise he h1.2.1 (by rw [ht, h1.2.2])
      have h3 : (bmp t e).d = (ent a.L t).d + 1 := by rw [← h2]; simp [bmp, ht]
      refine ⟨p, c, ?_, ?_, ?_⟩
      · show (if e.t = t then _ else F.m e.t) = _
        rw [if_pos ht, h3, h2]
      · rw [h2]; exact hfr.far hk6 (fun g _ hg => hi5 g hg)
      · rw [h2]; exact hg
    · have h3 : (bmp t e).d = e.d := by simp [bmp, ht]
      obtain ⟨p', c', e1, e2, e3⟩ := h5.cm.ins e he
      refine ⟨p', c', ?_, e2.far hk6 (fun g _ hg => hi5 g hg), e3⟩
      show (if e.t = t then _ else F.m e.t) = _
      rw [if_neg ht, h3]; exact e1
set_option maxHeartbeats 2000000 in
set_option maxRecDepth 100000 in
theorem take_nil (w : World) (t : Int) : Calls Tryz.prog 34 #[nilq, .int .u64 t] w fun e w' => e = .returned (.tuple #[.int .i64 0, .int .i64 1]) ∧ Below w.heap.size w w' := by
  have HE : Hid (B.nextS [] 0 = (0, false)) := rfl
  go_enter Tryz.func34, Tryz.ntmps34
  go_wp2_with (first | (go_at_call 66; refine (claimOf_nil w t).mono ?_; rintro e w1 ⟨rfl, h2⟩; have H1 : Hid (Below w.heap.size w w1) := h2; clear h2) | (go_at_call 67; refine (B.next_is _ _ _ [] _ _ (B.IIn.nil _ _)).mono ?_; rw [HE.out]; rintro e w2 ⟨rfl, rfl⟩))
  go_ret2
  exact ⟨rfl, below_then H1.out (below_alloc _ _)⟩
set_option maxHeartbeats 2000000 in
set_option maxRecDepth 100000 in
theorem take_out (h : PL w F n a) (hn : n ≤ 10000) {t : Int} (ht : U64 t) (hin : isIn a.L t = false) : Calls Tryz.prog 34 #[qp F.Q, .int .u64 t] w fun e w' => e = .returned (.tuple #[.int .i64 0, .int .i64 110]) ∧ Below w.heap.size w w' := by
  have HIN : Hid (isIn a.L t = false) := hin
  have HE : Hid (B.nextS (ent a.L t).s ((ent a.L t).d : Int) = (0, false)) := by show _ = _; rw [ent_nx, (out_nx hin).1, (out_nx hin).2.1]
  have hnn := hn
  go_enter Tryz.func34, Tryz.ntmps34
  go_wp2_with (first
    | (go_at_call 66; refine (claimOf_at h ht).mono ?_; rintro e w1 ⟨p, c, rfl, h1, hg, h2⟩; obtain ⟨p', c', e', hI, hkc, hp0⟩ := h1.read; simp only [Value.slice.injEq] at e'; obtain ⟨rfl, _, rfl⟩ := e'; have H1 : Hid (B.IIn w1 p (ent a.L t).s.length (ent a.L t).s ∧ Below w.heap.size w w1 ∧ Frm w1 (.slice p (ent a.L t).s.length c) (ent a.L t).s ∧ (∀ g, blk (.slice p (ent a.L t).s.length c) = some g → F.G g)) := ⟨hI, h2, h1, hg⟩; have H : Hid (PL w F n a) := h; clear h1 h2 h hI hg hkc hp0; rw [HIN.out])
    | (go_at_call 67; refine (B.next_is _ _ _ (ent a.L t).s _ _ (H1.out.1.later (below_alloc _ _))).mono ?_; rw [HE.out]; rintro e w2 ⟨rfl, rfl⟩))
  go_ret2
  exact ⟨rfl, below_then H1.out.2.1 (below_alloc _ _)⟩
set_option maxHeartbeats 2000000 in
set_option maxRecDepth 100000 in
theorem take_full (h : PL w F n a) (hn : n ≤ 10000) {t : Int} (ht : U64 t) (hin : isIn a.L t = true) (hx : (ent a.L t).nxB = false) : Calls Tryz.prog 34 #[qp F.Q, .int .u64 t] w fun e w' => e = .returned (.tuple #[.int .i64 0, .int .i64 180]) ∧ Below w.heap.size w w' := by
  have HIN : Hid (isIn a.L t = true) := hin
  have HE : Hid (B.nextS (ent a.L t).s ((ent a.L t).d : Int) = ((ent a.L t).nx, false)) := by show _ = _; rw [ent_nx, hx]
  have hnn := hn
  go_enter Tryz.func34, Tryz.ntmps34
  go_wp2_with (first
    | (go_at_call 66; refine (claimOf_at h ht).mono ?_; rintro e w1 ⟨p, c, rfl, h1, hg, h2⟩; obtain ⟨p', c', e', hI, hkc, hp0⟩ := h1.read; simp only [Value.slice.injEq] at e'; obtain ⟨rfl, _, rfl⟩ := e'; have H1 : Hid (B.IIn w1 p (ent a.L t).s.length (ent a.L t).s ∧ Below w.heap.size w w1 ∧ Frm w1 (.slice p (ent a.L t).s.length c) (ent a.L t).s ∧ (∀ g, blk (.slice p (ent a.L t).s.length c) = some g → F.G g)) := ⟨hI, h2, h1, hg⟩; have H : Hid (PL w F n a) := h; clear h1 h2 h hI hg hkc hp0; rw [HIN.out])
    | (go_at_call 67; refine (B.next_is _ _ _ (ent a.L t).s _ _ (H1.out.1.later (below_alloc _ _))).mono ?_; rw [HE.out]; rintro e w2 ⟨rfl, rfl⟩))
  go_ret2
  exact ⟨rfl, below_then H1.out.2.1 (below_alloc _ _)⟩
set_option maxHeartbeats 2000000 in
set_option maxRecDepth 100000 in
theorem take_wait (h : PL w F n a) (hn : n ≤ 10000) {t : Int} (ht : U64 t) (hin : isIn a.L t = true) (hx : (ent a.L t).nxB = true) (hr : rdyS a.L t = false) : Calls Tryz.prog 34 #[qp F.Q, .int .u64 t] w fun e w' => e = .returned (.tuple #[.int .i64 0, .int .i64 130]) ∧ Below w.heap.size w w' := by
  have HIN : Hid (isIn a.L t = true) := hin
  have HRD : Hid (rdyS a.L t = false) := hr
  have HE : Hid (B.nextS (ent a.L t).s ((ent a.L t).d : Int) = ((ent a.L t).nx, true)) := by show _ = _; rw [ent_nx, hx]
  go_enter Tryz.func34, Tryz.ntmps34
  go_wp2_with (first
    | (go_at_call 66; refine (claimOf_at h ht).mono ?_; rintro e w1 ⟨p, c, rfl, h1, hg, h2⟩; obtain ⟨p', c', e', hI, hkc, hp0⟩ := h1.read; simp only [Value.slice.injEq] at e'; obtain ⟨rfl, _, rfl⟩ := e'; have H1 : Hid (B.IIn w1 p (ent a.L t).s.length (ent a.L t).s ∧ Below w.heap.size w w1 ∧ Frm w1 (.slice p (ent a.L t).s.length c) (ent a.L t).s ∧ (∀ g, blk (.slice p (ent a.L t).s.length c) = some g → F.G g)) := ⟨hI, h2, h1, hg⟩; have H : Hid (PL w F n a) := h; clear h1 h2 h hI hg hkc hp0; rw [HIN.out])
    | (go_at_call 67; refine (B.next_is _ _ _ (ent a.L t).s _ _ (H1.out.1.later (below_alloc _ _))).mono ?_; rw [HE.out]; rintro e w2 ⟨rfl, rfl⟩)
    | (go_at_call 68; refine (ready_at ((H.out.later H1.out.2.1).later (below_alloc _ _)) hn ht).mono ?_; rw [HRD.out]; rintro e w3 ⟨rfl, h3⟩; have H3 : Hid (Below w.heap.size w w3) := below_then (below_then H1.out.2.1 (below_alloc _ _)) h3; clear h3))
  go_ret2
  exact ⟨rfl, H3.out⟩
set_option maxHeartbeats 2000000 in
set_option maxRecDepth 100000 in
theorem take_ok (h : PL w F n a) (hn : n < 10000) {t : Int} (ht : U64 t) (h0 : takE a.L t = 0) : Calls Tryz.prog 34 #[qp F.Q, .int .u64 t] w fun e w' => e = .returned (.tuple #[.int .i64 (ent a.L t).nx, .int .i64 0]) ∧ ∃ F', PL w' F' (n + 1) ⟨a.bl, a.last, a.L.map (bmp t)⟩ ∧ Kept (F.has a.bl) w w' ∧ Grw w w' a.bl F F' := by
  have h00 := takE_zero.1 h0
  have HIN : Hid (isIn a.L t = true) := h00.1
  have HRD : Hid (rdyS a.L t = true) := h00.2.2
  have HE : Hid (B.nextS (ent a.L t).s ((ent a.L t).d : Int) = ((ent a.L t).nx, true)) := by show _ = _; rw [ent_nx, h00.2.1]
  have H0 : Hid (takE a.L t = 0) := h0
  have hdl : (ent a.L t).d ≤ 64 := by have := ent_don h.ok t; have := ent_len h.ok t; omega
  have hw : IntKind.i64.wrap (((ent a.L t).d : Int) + 1) = ((ent a.L t).d : Int) + 1 := by rw [IntKind.wrap_i64]; omega
  clear h00 h0
  go_enter Tryz.func34, Tryz.ntmps34
  go_wp2_with (first
    | (go_at_call 66; refine (claimOf_at h ht).mono ?_; rintro e w1 ⟨p, c, rfl, h1, hg, h2⟩; obtain ⟨p', c', e', hI, hkc, hp0⟩ := h1.read; simp only [Value.slice.injEq] at e'; obtain ⟨rfl, _, rfl⟩ := e'; have H1 : Hid (B.IIn w1 p (ent a.L t).s.length (ent a.L t).s ∧ Below w.heap.size w w1 ∧ Frm w1 (.slice p (ent a.L t).s.length c) (ent a.L t).s ∧ (∀ g, blk (.slice p (ent a.L t).s.length c) = some g → F.G g)) := ⟨hI, h2, h1, hg⟩; have H : Hid (PL w F n a) := h; clear h1 h2 h hI hg hkc hp0; rw [HIN.out])
    | (go_at_call 67; refine (B.next_is _ _ _ (ent a.L t).s _ _ (H1.out.1.later (below_alloc _ _))).mono ?_; rw [HE.out]; rintro e w2 ⟨rfl, rfl⟩))
  have HT : Hid (PL (w1.alloc (.cells #[.slice p (ent a.L t).s.length c, .int .i64 (ent a.L t).d] 129)) F n a) := (H.out.later H1.out.2.1).later (below_alloc _ _)
  have HG0 := heap_alloc_new w1 (.cells #[.slice p (ent a.L t).s.length c, .int .i64 (ent a.L t).d] 129)
  have HBw : Hid (Below w.heap.size w (w1.alloc (.cells #[.slice p (ent a.L t).s.length c, .int .i64 (ent a.L t).d] 129)) ∧ w.heap.size ≤ w1.heap.size) := ⟨below_then H1.out.2.1 (below_alloc _ _), H1.out.2.1.size⟩
  have HFr : Hid (Frm (w1.alloc (.cells #[.slice p (ent a.L t).s.length c, .int .i64 (ent a.L t).d] 129)) (.slice p (ent a.L t).s.length c) (ent a.L t).s ∧ (∀ g, blk (.slice p (ent a.L t).s.length c) = some g → F.G g)) := ⟨H1.out.2.2.1.later (below_alloc _ _), H1.out.2.2.2⟩
  have hgs : w1.heap.size < (w1.alloc (.cells #[.slice p (ent a.L t).s.length c, .int .i64 (ent a.L t).d] 129)).heap.size := by simp
  clear H1
  generalize w1.alloc (.cells #[.slice p (ent a.L t).s.length c, .int .i64 (ent a.L t).d] 129) = W2 at *
  generalize w1.heap.size = g at *
  refine (ready_at HT.out (by omega) ht).mono ?_
  rw [HRD.out]
  rintro e w3 ⟨rfl, hb3⟩
  have st3 : w3.heap[g]? = some (.cells #[.slice p (ent a.L t).s.length c, .int .i64 (ent a.L t).d] 129 (0, 0)) := (hb3.block g hgs).trans HG0
  have d1 : w3.cell? ⟨g, 1, none⟩ = some (.int .i64 (ent a.L t).d) := by rw [cell_of_row _ g 1 _ 129 (0, 0) st3]; rfl
  have fg : w3.frozen? ⟨g, 1, none⟩ = false := by simp [World.frozen?, st3]
  have st4 : Hid ((w3.setCell ⟨g, 1, none⟩ (.int .i64 (((ent a.L t).d : Int) + 1))).heap[g]? = some (.cells #[.slice p (ent a.L t).s.length c, .int .i64 (((ent a.L t).d : Int) + 1)] 129 (0, 0))) := two_set1 st3 _
  have HB3 : Hid (Below w.heap.size w w3 ∧ w.heap.size ≤ g) := ⟨below_then HBw.out.1 hb3, HBw.out.2⟩
  have HFr3 : Hid (Frm w3 (.slice p (ent a.L t).s.length c) (ent a.L t).s) := HFr.out.1.later hb3
  have HB4 : Hid (Below w.heap.size w (w3.setCell ⟨g, 1, none⟩ (.int .i64 (((ent a.L t).d : Int) + 1)))) := HB3.out.1.setCell (p := ⟨g, 1, none⟩) HB3.out.2 _
  have HFr4 : Hid (Frm (w3.setCell ⟨g, 1, none⟩ (.int .i64 (((ent a.L t).d : Int) + 1))) (.slice p (ent a.L t).s.length c) (ent a.L t).s) := HFr3.out.far (Kept.setCell g 1 _) (fun g' _ h3 => ne_kd h3 (kd_cells st3) (by decide))
  clear HG0 HBw hgs hb3 HT HFr3 st3 HB3
  go_wp2_with fail
  clear d1 fg
  generalize w3.setCell ⟨g, 1, none⟩ (.int .i64 (((ent a.L t).d : Int) + 1)) = w4 at *
  have H4 : Hid (PL w4 F n a) := H.out.later HB4.out
  have HFIN : Hid (∀ w6, VMp w6 F.mb (n + 1) (fun u => if u = t then some (cv (.slice p (ent a.L t).s.length c) ((ent a.L t).d + 1)) else F.m u) → Kept (· = F.mb) w4.drew w6 → ∃ F2, PL w6 F2 (n + 1) ⟨a.bl, a.last, a.L.map (bmp t)⟩ ∧ Kept (F.has a.bl) w w6 ∧ Grw w w6 a.bl F F2) := fun w6 hm hk => H.out.taken H0.out (below_then HB4.out (below_drawn 1)) (HFr4.out.later (below_drawn 1)) HFr.out.2 hm hk
  have HV : Hid (VMp w4.drew F.mb n F.m) := (H4.out.later (below_drawn 1)).cm.mp
  have HQm : Hid (F.Q ≠ F.mb) := ne_kd H.out.kQ H.out.km (by decide)
  have Hgm : Hid (g ≠ F.mb) := ne_kd (kd_cells st4.out) H4.out.km (by decide)
  have e0 : w4.drew.cell? ⟨g, 0, none⟩ = some (.slice p (ent a.L t).s.length c) := by have := cell_of_row _ g 0 _ 129 (0, 0) st4.out; exact this
  have e1 : w4.drew.cell? ⟨g, 1, none⟩ = some (.int .i64 (((ent a.L t).d : Int) + 1)) := by have := cell_of_row _ g 1 _ 129 (0, 0) st4.out; exact this
  have e2 : w4.drew.cell? ⟨F.Q, 2, none⟩ = some (.map (some F.mb)) := H4.out.c 2
  clear st4 HFr4 HFr HB4 H4 HIN HRD HE H0 H
  generalize (ent a.L t).s.length = k at *
  generalize (ent a.L t).d = d at *
  refine wp_region_noPanic ?_
  refine wp_region_held_drew (S := fun w' => w'.cell? ⟨F.Q, 2, none⟩ = some (.map (some F.mb)) ∧ w'.cell? ⟨g, 0, none⟩ = some (.slice p k c) ∧ w'.cell? ⟨g, 1, none⟩ = some (.int .i64 ((d : Int) + 1))) (by kernel_rfl) ⟨e2, e0, e1⟩ (fun hHeld => ?_)
  clear e0 e1 e2
  generalize w4.drew = wd at *
  refine wpAnyH_take (i := 0) (v := ?va1) (by simp; rfl) (by kernel_rfl) (by kernel_rfl) (by kernel_rfl) (fun _ _ _ h => h) (Or.inl ⟨by rfl, ?ya1⟩) hHeld ?ra1
  case ya1 => intro w hSw; clear hSw; go_simp; with_reducible rfl
  simp only [Act.put, List.setIfInBounds_toArray, List.set_cons_zero, List.set_cons_succ]
  refine wpAnyH_take (i := 1) (v := ?va2) (by simp; rfl) (by kernel_rfl) (by kernel_rfl) (by kernel_rfl) (fun _ _ _ h => h) (Or.inl ⟨by rfl, ?ya2⟩) hHeld ?ra2
  case ya2 => intro w hSw; clear hSw; go_simp; with_reducible rfl
  simp only [Act.put, List.setIfInBounds_toArray, List.set_cons_zero, List.set_cons_succ]
  refine wpAnyH_take (i := 2) (v := ?va3) (by simp; rfl) (by kernel_rfl) (by kernel_rfl) (by kernel_rfl) (fun _ _ _ h => h) (Or.inl ⟨by rfl, ?ya3⟩) hHeld ?ra3
  case ya3 => intro w hSw; clear hSw; go_simp; with_reducible rfl
  simp only [Act.put, List.setIfInBounds_toArray, List.set_cons_zero, List.set_cons_succ]
  refine wpAnyH_take (i := 3) (v := ?va4) (by simp; rfl) (by kernel_rfl) (by kernel_rfl) (by kernel_rfl) (fun _ _ _ h => h) (Or.inl ⟨by rfl, ?ya4⟩) hHeld ?ra4
  case ya4 => intro w hSw; have z := hSw.1; clear hSw; go_simp; with_reducible rfl
  simp only [Act.put, List.setIfInBounds_toArray, List.set_cons_zero, List.set_cons_succ]
  refine wpAnyH_take (i := 4) (v := ?va5) (by simp; rfl) (by kernel_rfl) (by kernel_rfl) (by kernel_rfl) (fun _ _ _ h => h) (Or.inl ⟨by rfl, ?ya5⟩) hHeld ?ra5
  case ya5 => intro w hSw; clear hSw; go_simp; with_reducible rfl
  simp only [Act.put, List.setIfInBounds_toArray, List.set_cons_zero, List.set_cons_succ]
  refine wpAnyH_take (i := 5) (v := ?va6) (by simp; rfl) (by kernel_rfl) (by kernel_rfl) (by kernel_rfl) (fun _ _ _ h => h) (Or.inl ⟨by rfl, ?ya6⟩) hHeld ?ra6
  case ya6 => intro w hSw; have z0 := hSw.2.1; have z1 := hSw.2.2; clear hSw; go_simp; with_reducible rfl
  simp only [Act.put, List.setIfInBounds_toArray, List.set_cons_zero, List.set_cons_succ]
  refine wpAnyH_ready (rs := [6]) (by kernel_rfl) (by simp) ?_
  refine AllReadyH.cons (by simp; rfl) (fun Kc hKc => ?_) AllReadyH.nil
  obtain ⟨w6, hrun, hm6, hk6⟩ := HV.out.run_put hn ht (.agg #[.slice p k c, .int .i64 ((d : Int) + 1)])
  have H6 : Hid (VMp w6 F.mb (n + 1) (fun u => if u = t then some (cv (.slice p k c) (d + 1)) else F.m u) ∧ Kept (· = F.mb) wd w6) := ⟨hm6, hk6⟩
  have C6 : Hid (w6.cell? ⟨F.Q, 2, none⟩ = some (.map (some F.mb)) ∧ w6.cell? ⟨g, 0, none⟩ = some (.slice p k c) ∧ w6.cell? ⟨g, 1, none⟩ = some (.int .i64 ((d : Int) + 1))) := ⟨(World.cell?_of_block (w := wd) (a := ⟨F.Q, 2, none⟩) (hk6.block _ (World.block_lt_of_cell? wd _ hHeld.1) HQm.out)).trans hHeld.1, (World.cell?_of_block (w := wd) (a := ⟨g, 0, none⟩) (hk6.block _ (World.block_lt_of_cell? wd _ hHeld.2.1) Hgm.out)).trans hHeld.2.1, (World.cell?_of_block (w := wd) (a := ⟨g, 1, none⟩) (hk6.block _ (World.block_lt_of_cell? wd _ hHeld.2.2) Hgm.out)).trans hHeld.2.2⟩
  clear hm6 hk6 hHeld
  go_simp
  refine hKc.out _ _ C6.out (fun hHeld => ?_)
  clear hKc Kc hHeld hrun
  refine wpAnyH_done (by kernel_rfl) (NoPanic.normal ?_) _
  have HP := HFIN.out w6 H6.out.1 H6.out.2
  clear H6 C6 HFIN
  have HP : Hid (∃ F2, PL w6 F2 (n + 1) ⟨a.bl, a.last, a.L.map (bmp t)⟩ ∧ Kept (F.has a.bl) w w6 ∧ Grw w w6 a.bl F F2) := HP
  go_wp2_with fail
  go_ret2
  exact ⟨rfl, HP.out⟩
/-- Take -/
theorem take_at (h : PL w F n a) (hn : n < 10000) {t : Int} (ht : U64 t) : Calls Tryz.prog 34 #[qp F.Q, .int .u64 t] w fun e w' => e = .returned (.tuple #[.int .i64 (takN a.L t), .int .i64 (takE a.L t)]) ∧ ∃ F', PL w' F' (n + 1) (takS a t) ∧ Kept (F.has a.bl) w w' ∧ Grw w w' a.bl F F' := by
  by_cases h0 : takE a.L t = 0
  · have e1 : takS a t = ⟨a.bl, a.last, a.L.map (bmp t)⟩ := by unfold takS takL; rw [if_pos h0]
    have e2 : takN a.L t = (ent a.L t).nx := if_pos h0
    rw [e1, e2, h0]
    exact take_ok h hn ht h0
  · have e1 : takS a t = a := by unfold takS takL; rw [if_neg h0]
    have e2 : takN a.L t = 0 := if_neg h0
    rw [e1, e2]
    have key : Calls Tryz.prog 34 #[qp F.Q, .int .u64 t] w fun e w' => e = .returned (.tuple #[.int .i64 0, .int .i64 (takE a.L t)]) ∧ Below w.heap.size w w' := by
      cases hin : isIn a.L t with
      | false => rw [show takE a.L t = 110 by unfold takE; rw [if_pos hin]]; exact take_out h (by omega) ht hin
      | true =>
        cases hx : (ent a.L t).nxB with
        | false => rw [show takE a.L t = 180 by unfold takE; rw [if_neg (by rw [hin]; simp), if_pos hx]]; exact take_full h (by omega) ht hin hx
        | true =>
          cases hr : rdyS a.L t with
          | false => rw [show takE a.L t = 130 by unfold takE; rw [if_neg (by rw [hin]; simp), if_neg (by rw [hx]; simp), if_pos hr]]; exact take_wait h (by omega) ht hin hx hr
          | true => exact absurd (takE_zero.2 ⟨hin, hx, hr⟩) h0
    refine key.mono ?_
    rintro e w' ⟨rfl, hb⟩
    exact ⟨rfl, F, (h.later hb).more, Kept.of_below _ hb, Grw.refl _ _ _ _⟩
end
end Go.Proofs.YtkgjmejpbklabaaGreat.K
namespace Go.Proofs.YtkgjmejpbklabaaGreat.K
open Go.RowKit
section
variable {w : World} {F : Ft} {n : Nat} {a : Lk}
set_option maxHeartbeats 2000000 in
set_option maxRecDepth 100000 in
theorem dropL_nil (w : World) (t : Int) : Calls Tryz.prog 37 #[nilq, .int .u64 t] w fun e w' => e = .returned (.tuple #[.int .i64 0, .int .i64 1]) ∧ Below w.heap.size w w' := by
  go_enter Tryz.func37, Tryz.ntmps37
  go_wp2_with (go_at_call 66; refine (claimOf_nil w t).mono ?_; rintro e w1 ⟨rfl, h2⟩; have H1 : Hid (Below w.heap.size w w1) := h2; clear h2)
  go_ret2
  exact ⟨rfl, below_then H1.out (below_alloc _ _)⟩
set_option maxHeartbeats 2000000 in
set_option maxRecDepth 100000 in
theorem dropL_out (h : PL w F n a) {t : Int} (ht : U64 t) (hin : isIn a.L t = false) : Calls Tryz.prog 37 #[qp F.Q, .int .u64 t] w fun e w' => e = .returned (.tuple #[.int .i64 0, .int .i64 110]) ∧ Below w.heap.size w w' := by
  have HIN : Hid (isIn a.L t = false) := hin
  go_enter Tryz.func37, Tryz.ntmps37
  go_wp2_with (go_at_call 66; refine (claimOf_at h ht).mono ?_; rintro e w1 ⟨p, c, rfl, h1, hg, h2⟩; obtain ⟨p', c', e', hI, hkc, hp0⟩ := h1.read; simp only [Value.slice.injEq] at e'; obtain ⟨rfl, _, rfl⟩ := e'; have H1 : Hid (B.IIn w1 p (ent a.L t).s.length (ent a.L t).s ∧ Below w.heap.size w w1 ∧ Frm w1 (.slice p (ent a.L t).s.length c) (ent a.L t).s ∧ (∀ g, blk (.slice p (ent a.L t).s.length c) = some g → F.G g)) := ⟨hI, h2, h1, hg⟩; have H : Hid (PL w F n a) := h; clear h1 h2 h hI hg hkc hp0; rw [HIN.out])
  go_ret2
  exact ⟨rfl, below_then H1.out.2.1 (below_alloc _ _)⟩
/-- what the queues hold when k of the set are through -/
def drpQ (L : List En) (t : Int) (s : List Int) (k : Nat) (i : Nat) : List Int := if (i : Int) ∈ s.take k then (qS L i).erase t else qS L i
theorem drpQ_step {L : List En} {t : Int} {s : List Int} {k i : Nat} (hk : k < s.length) (hs : s.Pairwise (· < ·)) (hi : s.getD k 0 = (i : Int)) : (drpQ L t s k i = qS L i) ∧ ∀ j, drpQ L t s (k + 1) j = upd (drpQ L t s k) i ((qS L i).erase t) j := by
  have hg : s[k] = (i : Int) := by rw [← hi]; simp [List.getD, hk]
  have hn : (i : Int) ∉ s.take k := fun hm => by
    obtain ⟨j, hj, e⟩ := List.getElem_of_mem hm
    have hj2 : j < k ∧ j < s.length := by simp at hj; omega
    rw [List.getElem_take] at e
    have := (List.pairwise_iff_getElem.1 hs) j k hj2.2 hk hj2.1
    omega
  refine ⟨if_neg hn, fun j => ?_⟩
  unfold drpQ
  rw [List.take_succ_eq_append_getElem hk, hg]
  by_cases e : j = i
  · subst e
    rw [upd_same, if_pos (by simp)]
  · rw [upd_other _ _ e]
    have : ((j : Int) ∈ s.take k ++ [(i : Int)]) ↔ (j : Int) ∈ s.take k := by
      simp only [List.mem_append, List.mem_singleton]
      exact ⟨fun h => h.elim id (fun e2 => absurd (by omega) e), .inl⟩
    simp only [this]
theorem drpQ_zero {L : List En} {t : Int} {s : List Int} (i : Nat) : drpQ L t s 0 i = qS L i := by simp [drpQ]
theorem drpQ_all {a : Lk} (h : Ok a) {t : Int} (hin : isIn a.L t = true) (i : Nat) : drpQ a.L t (ent a.L t).s (ent a.L t).s.length i = qS (drpL a.L t) i := by
  rw [qS_drp]
  have hnd : (qS a.L i).Nodup := nd_of (h.qrise i)
  rw [← hnd.erase_eq_filter t]
  unfold drpQ
  rw [List.take_length]
  split
  · rfl
  · rename_i hn
    refine (List.erase_of_not_mem fun hm => hn ?_).symm
    obtain ⟨e, he, hb, het⟩ := qS_mem.1 hm
    have h1 := isIn_ent hin
    rw [← one_of h.rise he h1.2.1 (by rw [het, h1.2.2])]
    exact hb
theorem PL.dropped {w4 w5 w6 : World} {F5 : Ft} {M : Nat → Int} {t : Int} {v6 : Value} (h : PL w F n a) (hT : Trn w F a.bl w4 F5 (fun i => qS (drpL a.L t) i) M (tix a.L) a.last) (hM : ∀ i, i < a.bl → M i ≤ a.last)
    (hm5 : VMp w5 F.mb n (fun u => if u = t then none else F.m u)) (hk5 : Kept (· = F.mb) w4 w5) (q1 : QAt 59 w6 F5.th v6 ((tix a.L).erase t) a.last) (q2 : blk v6 = blk F5.tv) (q3 : Kept (fun b => b = F5.th ∨ blk F5.tv = some b) w5 w6) :
    PL w6 { F5 with tv := v6, m := fun u => if u = t then none else F.m u } n (drpS a t) ∧ Kept (F.has a.bl) w w6 ∧ Grw w w6 a.bl F { F5 with tv := v6, m := fun u => if u = t then none else F.m u } := by
  have hc4 := hT.cm h
  have km4 : kd w4 F.mb = 100000 := kd_map hc4.mp.typ
  have hi4 : ∀ g, kd w4 g = 3 → ¬ g = F.mb := fun g hg e => by rw [e, km4] at hg; cases hg
  have hQ5 := hT.pq.mapped hk5 km4
  have km5 : kd w5 F.mb = 100000 := kd_map hm5.typ
  have hQ6 := hQ5.turnT q3 q1 (fun g hg => .inl (by rw [← q2]; exact hg))
  have kk : Kept (F.has a.bl) w w6 := ((hT.kept.wider (T := F.has a.bl) (fun x _ e => qset_has e)).trans hk5 (fun x _ e => .inr (.inr (.inr (.inr (.inr (.inr e))))))).trans q3 (fun x hx e => by
    have hb : F5.qset a.bl x := by
      rcases e with e | e
      · exact .inr (.inr (.inl e))
      · exact .inr (.inr (.inr e))
    rcases hT.fro.qset hb with e | e
    · exact qset_has e
    · omega)
  have nq : ∀ g k, kd w5 g = k → k ≠ 59 → k ≠ 44 → ¬ (g = F5.th ∨ blk F5.tv = some g) := fun g k hk h1 h2 e => hQ5.noq hk h1 h2 (by
    rcases e with e | e
    · exact .inr (.inr (.inl e))
    · exact .inr (.inr (.inr e)))
  have hnd : (tix a.L).Nodup := nd_of h.ok.rise
  have hfrm : ∀ {v f}, Frm w4 v f → Frm w6 v f := fun {v f} hf => (hf.far hk5 (fun g _ hg => hi4 g hg)).far q3 (fun g _ hg => nq g 3 hg (by decide) (by decide))
  refine ⟨⟨hQ6.st, hQ6.qs, fun i hi => ⟨M i, hM i hi, hQ6.lq i hi⟩, ?_, ⟨?_, fun u hu hin => ?_, fun e he => ?_⟩, h.ok.drpS t, ?_, hQ6.qq, hQ6.qt, hQ6.vv, hQ6.vt⟩, kk, ⟨hT.fro.Q, fun b hb => ?_, fun b hb => by rw [show F5.G = F.G from hT.fro.G] at hb; exact .inl hb⟩⟩
  · show QAt _ _ _ _ (tix (drpL a.L t)) a.last
    rw [tix_drp, ← hnd.erase_eq_filter t]; exact hQ6.lt'
  · show VMp w6 F5.mb n _
    rw [hT.fro.mb]
    exact hm5.kept (q3.block _ hm5.lt (nq _ _ km5 (by decide) (by decide)))
  · show (if u = t then none else F.m u) = none
    by_cases e : u = t
    · exact if_pos e
    · rw [if_neg e]
      refine hc4.out u hu ?_
      have : fnd (drpL a.L t) u = fnd a.L u := by rw [fnd_drp, if_neg e]
      unfold isIn at hin ⊢
      rw [← this]; exact hin
  · have he2 : e ∈ a.L ∧ e.t ≠ t := by have := he; simpa [drpS, drpL] using this
    obtain ⟨p, c, e1, e2, e3⟩ := hc4.ins e he2.1
    refine ⟨p, c, ?_, hfrm e2, fun g hg => ?_⟩
    · show (if e.t = t then none else F.m e.t) = _
      rw [if_neg he2.2]; exact e1
    · show F5.G g
      rw [hT.fro.G]; exact e3 g hg
  · have h1 : (drpL a.L t).length ≤ a.L.length := List.length_filter_le _ _
    have := h.len
    show (drpL a.L t).length ≤ n
    omega
  · refine hT.fro.has (b := b) ?_
    rcases hb with e | e | e | e | e | e | e
    · exact .inl e
    · exact .inr (.inl e)
    · exact .inr (.inr (.inl e))
    · exact .inr (.inr (.inr (.inl e)))
    · exact .inr (.inr (.inr (.inr (.inl e))))
    · exact .inr (.inr (.inr (.inr (.inr (.inl (by rw [← q2]; exact e))))))
    · exact .inr (.inr (.inr (.inr (.inr (.inr e)))))
set_option maxHeartbeats 2000000 in
set_option maxRecDepth 100000 in
theorem dropL_in (h : PL w F n a) (hn : n ≤ 10000) {t : Int} (ht : U64 t) (hin : isIn a.L t = true) : Calls Tryz.prog 37 #[qp F.Q, .int .u64 t] w fun e w' => e = .returned (.tuple #[.int .i64 (ent a.L t).d, .int .i64 0]) ∧ ∃ F', PL w' F' n (drpS a t) ∧ Kept (F.has a.bl) w w' ∧ Grw w w' a.bl F F' := by
  have HIN : Hid (isIn a.L t = true) := hin
  have hl := ent_len h.ok t
  have HU := ent_up h.ok t
  have HR := ent_rng h.ok t
  have HU : Hid ((ent a.L t).s.Pairwise (· < ·)) := HU
  have HR : Hid (∀ b ∈ (ent a.L t).s, 0 ≤ b ∧ b < a.bl) := HR
  have HTI : Hid (t ∈ tix a.L) := isIn_iff.1 hin
  have hlen : (tix a.L).length ≤ n := by have := h.len; simpa [tix] using this
  go_enter Tryz.func37, Tryz.ntmps37
  go_wp2_with (go_at_call 66; refine (claimOf_at h ht).mono ?_; rintro e w1 ⟨p, c, rfl, h1, hg, h2⟩; obtain ⟨p', c', e', hI, hkc, hp0⟩ := h1.read; simp only [Value.slice.injEq] at e'; obtain ⟨rfl, _, rfl⟩ := e'; have H1 : Hid (B.IIn w1 p (ent a.L t).s.length (ent a.L t).s ∧ Below w.heap.size w w1 ∧ Frm w1 (.slice p (ent a.L t).s.length c) (ent a.L t).s ∧ (∀ g, blk (.slice p (ent a.L t).s.length c) = some g → F.G g)) := ⟨hI, h2, h1, hg⟩; have H : Hid (PL w F n a) := h; clear h1 h2 h hI hg hkc hp0; rw [HIN.out])
  have HG0 : Hid ((w1.alloc (.cells #[.slice p (ent a.L t).s.length c, .int .i64 (ent a.L t).d] 129)).heap[w1.heap.size]? = some (.cells #[.slice p (ent a.L t).s.length c, .int .i64 (ent a.L t).d] 129 (0, 0))) := heap_alloc_new w1 _
  have HBw : Hid (Below w.heap.size w (w1.alloc (.cells #[.slice p (ent a.L t).s.length c, .int .i64 (ent a.L t).d] 129)) ∧ w.heap.size ≤ w1.heap.size) := ⟨below_then H1.out.2.1 (below_alloc _ _), H1.out.2.1.size⟩
  have HFr : Hid (Frm (w1.alloc (.cells #[.slice p (ent a.L t).s.length c, .int .i64 (ent a.L t).d] 129)) (.slice p (ent a.L t).s.length c) (ent a.L t).s) := H1.out.2.2.1.later (below_alloc _ _)
  have HT0 : Hid (∃ M, Trn w F a.bl (w1.alloc (.cells #[.slice p (ent a.L t).s.length c, .int .i64 (ent a.L t).d] 129)) F (drpQ a.L t (ent a.L t).s 0) M (tix a.L) a.last ∧ ∀ i, i < a.bl → M i ≤ a.last) := by
    obtain ⟨M, hM, hT⟩ := H.out.trn
    exact ⟨M, (hT.later HBw.out.1).congr (fun i _ => drpQ_zero i), hM⟩
  have hgs : w1.heap.size < (w1.alloc (.cells #[.slice p (ent a.L t).s.length c, .int .i64 (ent a.L t).d] 129)).heap.size := by simp
  clear H1
  generalize w1.alloc (.cells #[.slice p (ent a.L t).s.length c, .int .i64 (ent a.L t).d] 129) = W2 at *
  generalize w1.heap.size = g at *
  go_loopw [25] (fun i wr => ∃ k : Nat, k ≤ (ent a.L t).s.length ∧ i = .int .i64 k ∧ Hid (∃ F' M, Trn w F a.bl wr F' (drpQ a.L t (ent a.L t).s k) M (tix a.L) a.last ∧ ∀ i, i < a.bl → M i ≤ a.last) ∧ Hid (wr.heap[g]? = some (.cells #[.slice p (ent a.L t).s.length c, .int .i64 (ent a.L t).d] 129 (0, 0)) ∧ Frm wr (.slice p (ent a.L t).s.length c) (ent a.L t).s)) (fun i _ => (ent a.L t).s.length - (intOf i).toNat)
  case atStart =>
    obtain ⟨M, h1, h2⟩ := HT0.out
    exact ⟨0, Nat.zero_le _, rfl, ⟨_, M, h1, h2⟩, HG0.out, HFr.out⟩
  case round =>
    obtain ⟨k, hk2, rfl, HW, HS⟩ := hrel
    clear HT0 HG0 HFr
    by_cases hlt : k < (ent a.L t).s.length
    · obtain ⟨F', M', hT, hM⟩ := HW.out
      have hmem : (ent a.L t).s.getD k 0 ∈ (ent a.L t).s := by rw [List.getD, List.getElem?_eq_getElem hlt]; exact List.getElem_mem hlt
      have hrk := HR.out _ hmem
      obtain ⟨i, hi⟩ : ∃ i : Nat, (ent a.L t).s.getD k 0 = (i : Int) := ⟨((ent a.L t).s.getD k 0).toNat, by omega⟩
      have hib : i < a.bl := by omega
      obtain ⟨hQ1, hQ2⟩ := drpQ_step (L := a.L) (t := t) hlt HU.out hi
      have HTQ : Hid (t ∈ qS a.L i) := qS_mem.2 ⟨_, (isIn_ent HIN.out).2.1, by rw [← hi]; exact hmem, (isIn_ent HIN.out).2.2⟩
      obtain ⟨p', c', e', hI, _, _⟩ := HS.out.2.read
      simp only [Value.slice.injEq, true_and] at e'
      obtain ⟨rfl, rfl⟩ := e'
      obtain ⟨b', o', e', hcs⟩ := hI.cells (by omega)
      subst e'
      have cs : wr.cell? ⟨b', o' + k, none⟩ = some (.int .i64 (i : Int)) := by rw [hcs k hlt, hi]
      have d0 : wr.cell? ⟨F.Q, 0, none⟩ = some (.slice (some ⟨F.qb, 0, none⟩) a.bl a.bl) := by
        have := cell_of_row _ F'.Q 0 _ 66 (0, 0) hT.pq.st
        rw [hT.fro.Q] at this
        rw [this]; simp [kcells, hT.fro.qb]
      have d1 : wr.cell? ⟨F.qb, i, none⟩ = some (qp (F'.q i)) := by
        have := cell_of_row _ F'.qb i _ 57 (0, 0) hT.pq.qs
        rw [hT.fro.qb] at this
        rw [this]; simp [qrow, hib]
      have HQ : Hid (QAt 59 wr (F'.q i) (F'.v i) (qS a.L i) (M' i)) := by have := hT.pq.lq i hib; rw [hQ1] at this; exact this
      have hql : (qS a.L i).length ≤ n := H.out.qlen i
      have HT : Hid (Trn w F a.bl wr F' (drpQ a.L t (ent a.L t).s k) M' (tix a.L) a.last ∧ ∀ i, i < a.bl → M' i ≤ a.last) := ⟨hT, hM⟩
      have HQ2 : Hid (∀ j, drpQ a.L t (ent a.L t).s (k + 1) j = upd (drpQ a.L t (ent a.L t).s k) i ((qS a.L i).erase t) j) := hQ2
      clear hT hM hcs hQ1 hQ2 hrk hi HW hmem hI
      have i4 : (i : Int) < (a.bl : Int) := by omega
      have HNG : Hid (∀ b kk, kd wr b = kk → kk ≠ 59 → kk ≠ 44 → ¬ (b = F'.q i ∨ blk (F'.v i) = some b)) := fun b kk hk h1 h2 e => HT.out.1.pq.noq hk h1 h2 (by rcases e with e | e; exact .inl ⟨i, hib, e⟩; exact .inr (.inl ⟨i, hib, e⟩))
      go_wp2_with (go_at_call 72; refine (drop_in HQ.out t HTQ.out (by omega)).mono ?_; rintro e w3 ⟨rfl, v3, q1, q2, q3⟩; have HT3 : Hid (Trn w F a.bl w3 { F' with v := upd F'.v i v3 } (drpQ a.L t (ent a.L t).s (k + 1)) (upd M' i (M' i)) (tix a.L) a.last) := (HT.out.1.put hib q3 q1 (fun g hg => .inl (by rw [← q2]; exact hg))).congr (fun j _ => HQ2.out j); have HS3 : Hid (w3.heap[g]? = some (.cells #[.slice (some ⟨b', o', none⟩) (ent a.L t).s.length c, .int .i64 (ent a.L t).d] 129 (0, 0)) ∧ Frm w3 (.slice (some ⟨b', o', none⟩) (ent a.L t).s.length c) (ent a.L t).s) := ⟨(q3.block g (Array.getElem?_eq_some_iff.1 HS.out.1).1 (HNG.out _ _ (kd_cells HS.out.1) (by decide) (by decide))).trans HS.out.1, HS.out.2.far q3 (fun g' _ h3 => HNG.out _ _ h3 (by decide) (by decide))⟩; clear q1 q2 q3)
      go_roundw
      case rel =>
        refine ⟨k + 1, by omega, by go_num, ⟨_, _, HT3.out, fun j hj => ?_⟩, HS3.out⟩
        by_cases e : j = i
        · subst e; rw [upd_same]; exact HT.out.2 j hj
        · rw [upd_other _ _ e]; exact HT.out.2 j hj
      case measure => simp [intOf]; omega
    · obtain rfl : k = (ent a.L t).s.length := by omega
      obtain ⟨F5, M', hT0, hM⟩ := HW.out
      have hT := hT0.congr (f' := fun i => qS (drpL a.L t) i) (fun i _ => (drpQ_all H.out.ok HIN.out i).symm)
      have HT : Hid (Trn w F a.bl wr F5 (fun i => qS (drpL a.L t) i) M' (tix a.L) a.last ∧ ∀ i, i < a.bl → M' i ≤ a.last) := ⟨hT, hM⟩
      have d2 : wr.cell? ⟨F.Q, 2, none⟩ = some (.map (some F.mb)) := by
        have := cell_of_row _ F5.Q 2 _ 66 (0, 0) hT.pq.st
        rw [hT.fro.Q] at this
        rw [this]; simp [kcells, hT.fro.mb]
      have d1 : wr.cell? ⟨F.Q, 1, none⟩ = some (qp F.th) := by
        have := cell_of_row _ F5.Q 1 _ 66 (0, 0) hT.pq.st
        rw [hT.fro.Q] at this
        rw [this]; simp [kcells, hT.fro.th]
      have HV : Hid (VMp wr F.mb n F.m) := (hT.cm H.out).mp
      have kQ : kd wr F.Q = 66 := by have := kd_cells hT.pq.st; rw [hT.fro.Q] at this; exact this
      have HQm : Hid (F.Q ≠ F.mb) := ne_kd kQ (kd_map HV.out.typ) (by decide)
      have Hgm : Hid (g ≠ F.mb) := ne_kd (kd_cells HS.out.1) (kd_map HV.out.typ) (by decide)
      have HD1 : Hid (wr.cell? ⟨F.Q, 1, none⟩ = some (qp F.th) ∧ F.Q < wr.heap.size ∧ g < wr.heap.size ∧ kd wr F.Q = 66) := ⟨d1, World.block_lt_of_cell? wr _ d1, (Array.getElem?_eq_some_iff.1 HS.out.1).1, kQ⟩
      clear hT0 hT hM d1 HW kQ
      go_wp2_with (at_delete; refine wpList_delete_v rfl (.tmp 42) (.tmp 43) rfl F.m rfl HV.out t ht rfl ?_; intro w5 hm5 hk5; have H5 : Hid (VMp w5 F.mb n (fun u => if u = t then none else F.m u) ∧ Kept (· = F.mb) wr w5) := ⟨hm5, hk5⟩; clear hm5 hk5)
      have HTH : Hid (QAt 59 w5.drew F5.th F5.tv (tix a.L) a.last) := ((HT.out.1.pq.mapped H5.out.2 (kd_map HV.out.typ)).lt').later (below_drawn 1)
      have e1 : w5.drew.cell? ⟨F.Q, 1, none⟩ = some (qp F.th) := (World.cell?_of_block (w := wr) (a := ⟨F.Q, 1, none⟩) (H5.out.2.block _ HD1.out.2.1 HQm.out)).trans HD1.out.1
      have st5 : w5.heap[g]? = some (.cells #[.slice p (ent a.L t).s.length c, .int .i64 (ent a.L t).d] 129 (0, 0)) := (H5.out.2.block g HD1.out.2.2.1 Hgm.out).trans HS.out.1
      have e2 : w5.drew.cell? ⟨g, 1, none⟩ = some (.int .i64 (ent a.L t).d) := by have := cell_of_row _ g 1 _ 129 (0, 0) st5; exact this
      have HNG : Hid (∀ b kk, kd w5 b = kk → kk ≠ 59 → kk ≠ 44 → ¬ (b = F5.th ∨ blk F5.tv = some b)) := fun b kk hk h1 h2 e => (HT.out.1.pq.mapped H5.out.2 (kd_map HV.out.typ)).noq hk h1 h2 (by rcases e with e | e; exact .inr (.inr (.inl e)); exact .inr (.inr (.inr e)))
      have HQn : Hid (¬ (F.Q = F5.th ∨ blk F5.tv = some F.Q)) := HNG.out _ _ ((kd_eq (H5.out.2.block _ HD1.out.2.1 HQm.out)).trans HD1.out.2.2.2) (by decide) (by decide)
      have Hgn : Hid (¬ (g = F5.th ∨ blk F5.tv = some g)) := HNG.out _ _ (kd_cells st5) (by decide) (by decide)
      have HFIN : Hid (∀ w6 v6, QAt 59 w6 F5.th v6 ((tix a.L).erase t) a.last → blk v6 = blk F5.tv → Kept (fun b => b = F5.th ∨ blk F5.tv = some b) w5.drew w6 → PL w6 { F5 with tv := v6, m := fun u => if u = t then none else F.m u } n (drpS a t) ∧ Kept (F.has a.bl) w w6 ∧ Grw w w6 a.bl F { F5 with tv := v6, m := fun u => if u = t then none else F.m u }) := fun w6 v6 q1 q2 q3 => H.out.dropped HT.out.1 HT.out.2 (H5.out.1.kept (w' := w5.drew) rfl) ((H5.out.2).trans (Kept.of_below (fun _ => False) (below_drawn 1)) (fun _ _ e => e.elim)) q1 q2 q3
      have hth : F5.th = F.th := HT.out.1.fro.th
      rw [← hth] at e1
      clear HT HS HV HQm Hgm HD1 H5 HNG st5 HU HR HIN H HBw hth
      go_wp2_with fail
      refine wp_region_noPanic ?_
      refine wp_region_held_drew (S := fun w' => w'.cell? ⟨F.Q, 1, none⟩ = some (qp F5.th) ∧ w'.cell? ⟨g, 1, none⟩ = some (.int .i64 (ent a.L t).d)) (by kernel_rfl) ⟨e1, e2⟩ (fun hHeld => ?_)
      clear e1 e2
      generalize w5.drew = wd at *
      refine wpAnyH_take (i := 0) (v := ?va1) (by simp; rfl) (by kernel_rfl) (by kernel_rfl) (by kernel_rfl) (fun _ _ _ h => h) (Or.inl ⟨by rfl, ?ya1⟩) hHeld ?ra1
      case ya1 => intro w hSw; clear hSw; go_simp; with_reducible rfl
      simp only [Act.put, List.setIfInBounds_toArray, List.set_cons_zero, List.set_cons_succ]
      refine wpAnyH_take (i := 1) (v := ?va2) (by simp; rfl) (by kernel_rfl) (by kernel_rfl) (by kernel_rfl) (fun _ _ _ h => h) (Or.inl ⟨by rfl, ?ya2⟩) hHeld ?ra2
      case ya2 => intro w hSw; have z := hSw.2; clear hSw; go_simp; with_reducible rfl
      simp only [Act.put, List.setIfInBounds_toArray, List.set_cons_zero, List.set_cons_succ]
      refine wpAnyH_take (i := 2) (v := ?va3) (by simp; rfl) (by kernel_rfl) (by kernel_rfl) (by kernel_rfl) (fun _ _ _ h => h) (Or.inl ⟨by rfl, ?ya3⟩) hHeld ?ra3
      case ya3 => intro w hSw; clear hSw; go_simp; with_reducible rfl
      simp only [Act.put, List.setIfInBounds_toArray, List.set_cons_zero, List.set_cons_succ]
      refine wpAnyH_take (i := 3) (v := ?va4) (by simp; rfl) (by kernel_rfl) (by kernel_rfl) (by kernel_rfl) (fun _ _ _ h => h) (Or.inl ⟨by rfl, ?ya4⟩) hHeld ?ra4
      case ya4 => intro w hSw; clear hSw; go_simp; with_reducible rfl
      simp only [Act.put, List.setIfInBounds_toArray, List.set_cons_zero, List.set_cons_succ]
      refine wpAnyH_take (i := 4) (v := ?va5) (by simp; rfl) (by kernel_rfl) (by kernel_rfl) (by kernel_rfl) (fun _ _ _ h => h) (Or.inl ⟨by rfl, ?ya5⟩) hHeld ?ra5
      case ya5 => intro w hSw; clear hSw; go_simp; with_reducible rfl
      simp only [Act.put, List.setIfInBounds_toArray, List.set_cons_zero, List.set_cons_succ]
      refine wpAnyH_take (i := 5) (v := ?va6) (by simp; rfl) (by kernel_rfl) (by kernel_rfl) (by kernel_rfl) (fun _ _ _ h => h) (Or.inl ⟨by rfl, ?ya6⟩) hHeld ?ra6
      case ya6 => intro w hSw; have z := hSw.1; clear hSw; go_simp; with_reducible rfl
      simp only [Act.put, List.setIfInBounds_toArray, List.set_cons_zero, List.set_cons_succ]
      refine wpAnyH_take (i := 6) (v := ?va7) (by simp; rfl) (by kernel_rfl) (by kernel_rfl) (by kernel_rfl) (fun _ _ _ h => h) (Or.inl ⟨by rfl, ?ya7⟩) hHeld ?ra7
      case ya7 => intro w hSw; clear hSw; go_simp; with_reducible rfl
      simp only [Act.put, List.setIfInBounds_toArray, List.set_cons_zero, List.set_cons_succ]
      refine wpAnyH_ready (rs := [7]) (by kernel_rfl) (by simp) ?_
      refine AllReadyH.cons (by simp; rfl) (fun Kc hKc => ?_) AllReadyH.nil
      go_simp
      refine (drop_in HTH.out t HTI.out (by omega)).mono ?_
      rintro e w6 ⟨rfl, v6, q1, q2, q3⟩
      have HP := HFIN.out w6 v6 q1 q2 q3
      have HP : Hid (PL w6 { F5 with tv := v6, m := fun u => if u = t then none else F.m u } n (drpS a t) ∧ Kept (F.has a.bl) w w6 ∧ Grw w w6 a.bl F { F5 with tv := v6, m := fun u => if u = t then none else F.m u }) := HP
      have C6 : Hid (w6.cell? ⟨F.Q, 1, none⟩ = some (qp F5.th) ∧ w6.cell? ⟨g, 1, none⟩ = some (.int .i64 (ent a.L t).d)) := ⟨(World.cell?_of_block (w := wd) (a := ⟨F.Q, 1, none⟩) (q3.block _ (World.block_lt_of_cell? wd _ hHeld.1) HQn.out)).trans hHeld.1, (World.cell?_of_block (w := wd) (a := ⟨g, 1, none⟩) (q3.block _ (World.block_lt_of_cell? wd _ hHeld.2) Hgn.out)).trans hHeld.2⟩
      clear q1 q2 q3 hHeld HFIN
      refine hKc.out _ _ C6.out (fun hHeld => ?_)
      clear hKc Kc C6
      refine wpAnyH_take (i := 8) (v := ?va8) (by simp; rfl) (by kernel_rfl) (by kernel_rfl) (by kernel_rfl) (fun _ _ _ h => h) (Or.inl ⟨by rfl, ?ya8⟩) hHeld ?ra8
      case ya8 => intro w hSw; clear hSw; go_simp; with_reducible rfl
      simp only [Act.put, List.setIfInBounds_toArray, List.set_cons_zero, List.set_cons_succ]
      refine wpAnyH_take (i := 9) (v := ?va9) (by simp; rfl) (by kernel_rfl) (by kernel_rfl) (by kernel_rfl) (fun _ _ _ h => h) (Or.inl ⟨by rfl, ?ya9⟩) hHeld ?ra9
      case ya9 => intro w hSw; clear hSw; go_simp; with_reducible rfl
      simp only [Act.put, List.setIfInBounds_toArray, List.set_cons_zero, List.set_cons_succ]
      clear hHeld
      refine wpAnyH_done (by kernel_rfl) (NoPanic.normal ?_) _
      go_wp2_with fail
      go_ret2
      exact ⟨rfl, _, HP.out⟩
end
section
variable {w : World} {F : Ft} {n : Nat} {a : Lk}
theorem drp_out {L : List En} {t : Int} (h : isIn L t = false) : drpL L t = L := by
  refine List.filter_eq_self.2 fun e he => ?_
  simp only [bne_iff_ne, ne_eq]
  intro het
  have : isIn L t = true := isIn_iff.2 (mem_tix.2 ⟨e, he, het⟩)
  rw [h] at this; cases this
/-- Drop -/
theorem dropL_at (h : PL w F n a) (hn : n ≤ 10000) {t : Int} (ht : U64 t) : Calls Tryz.prog 37 #[qp F.Q, .int .u64 t] w fun e w' => e = .returned (.tuple #[.int .i64 (drpN a.L t), .int .i64 (drpE a.L t)]) ∧ ∃ F', PL w' F' n (drpS a t) ∧ Kept (F.has a.bl) w w' ∧ Grw w w' a.bl F F' := by
  cases hin : isIn a.L t with
  | true =>
    have e1 : drpE a.L t = 0 := if_neg (by rw [hin]; simp)
    rw [e1]
    exact dropL_in h hn ht hin
  | false =>
    have e1 : drpE a.L t = 110 := if_pos hin
    have e2 : drpN a.L t = 0 := by unfold drpN; rw [(out_nx hin).2.2.2.1]; rfl
    have e3 : drpS a t = a := by unfold drpS; rw [drp_out hin]
    rw [e1, e2, e3]
    refine (dropL_out h ht hin).mono ?_
    rintro e w' ⟨rfl, hb⟩
    exact ⟨rfl, F, h.later hb, Kept.of_below _ hb, Grw.refl _ _ _ _⟩
end
end Go.Proofs.YtkgjmejpbklabaaGreat.K
namespace Go.Proofs.YtkgjmejpbklabaaGreat.K
open Go.RowKit
/-- the row of queues while it is filled -/
def rowOf (q : Nat → Nat) (k N : Nat) : List Value := (List.range N).map fun i => if i < k then qp (q i) else nilq
theorem rowOf_zero (q : Nat → Nat) (N : Nat) : madeCells #[nilq] N = (rowOf q 0 N).toArray := by
  apply Array.ext
  · simp [size_madeCells, rowOf]
  · intro i h1 h2
    simp [madeCells, rowOf, Nat.mod_one]
theorem rowOf_step (q : Nat → Nat) {k N b : Nat} : (rowOf q k N).set k (qp b) = rowOf (upd q k b) (k + 1) N := by
  apply List.ext_getElem
  · simp [rowOf]
  · intro i h1 h2
    rw [List.getElem_set]
    simp only [rowOf, List.getElem_map, List.getElem_range, upd]
    by_cases e : k = i
    · subst e; simp
    · rw [if_neg e]
      by_cases e2 : i < k
      · rw [if_pos e2, if_pos (by omega), if_neg (fun e3 => e e3.symm)]
      · rw [if_neg e2, if_neg (by omega)]
theorem rowOf_all (F : Ft) (N : Nat) : rowOf F.q N N = qrow F N := by
  unfold rowOf qrow
  apply List.map_congr_left
  intro i hi
  rw [if_pos (by simpa using hi)]
/-- new queues in a new row, k of them there -/
structure Fil (w0 w : World) (qb N k : Nat) (q : Nat → Nat) (v : Nat → Value) (f : Nat → List Int) (M : Nat → Int) : Prop where
  row : w.heap[qb]? = some (.cells (rowOf q k N).toArray 57 (0, 0))
  lq : ∀ i, i < k → QAt 59 w (q i) (v i) (f i) (M i)
  hi : ∀ i, i < k → w0.heap.size ≤ q i
  vhi : ∀ i g, i < k → blk (v i) = some g → w0.heap.size ≤ g
  qq : ∀ i j, i < k → j < k → q i = q j → i = j
  vv : ∀ i j g, i < k → j < k → blk (v i) = some g → blk (v j) = some g → i = j
  below : Below w0.heap.size w0 w
  qbn : w0.heap.size ≤ qb
section
variable {w0 w w' : World} {qb N k : Nat} {q : Nat → Nat} {v : Nat → Value} {f : Nat → List Int} {M : Nat → Int}
theorem Fil.later (h : Fil w0 w qb N k q v f M) (hb : Below w.heap.size w w') : Fil w0 w' qb N k q v f M :=
  ⟨(hb.block _ (Array.getElem?_eq_some_iff.1 h.row).1).trans h.row, fun i hi => (h.lq i hi).later hb, h.hi, h.vhi, h.qq, h.vv, below_then h.below hb, h.qbn⟩
theorem Fil.start (w : World) (N : Nat) (q : Nat → Nat) (v : Nat → Value) (f : Nat → List Int) (M : Nat → Int) : Fil w (w.alloc (.cells (madeCells #[nilq] N) 57)) w.heap.size N 0 q v f M :=
  ⟨by rw [rowOf_zero q N]; exact heap_alloc_new w _, fun i hi => by omega, fun i hi => by omega, fun i g hi => by omega, fun i j hi => by omega, fun i j g hi => by omega, below_alloc w _, Nat.le_refl _⟩
theorem Fil.store (h : Fil w0 w qb N k q v f M) (hk : k < N) {b : Nat} {v' : Value} {xs : List Int} {m : Int} (hb : Below w.heap.size w w') (hq : QAt 59 w' b v' xs m) (hbn : w.heap.size ≤ b) (hvn : ∀ g, blk v' = some g → w.heap.size ≤ g) :
    Fil w0 (w'.setCell ⟨qb, k, none⟩ (qp b)) qb N (k + 1) (upd q k b) (upd v k v') (upd f k xs) (upd M k m) := by
  have h2 := h.later hb
  have hs := h.below.size
  have hK := Kept.setCell (w := w') qb k (qp b)
  have kqb : kd w' qb = 57 := kd_cells h2.row
  have far : ∀ {Q u ys z}, QAt 59 w' Q u ys z → QAt 59 (w'.setCell ⟨qb, k, none⟩ (qp b)) Q u ys z := fun {Q u ys z} hQ => hQ.far hK (ne_kd (kd_cells hQ.st) kqb (by decide)) (fun g hg => ne_kd ((Row_kd hQ.row hg)) kqb (by decide))
  have qlt : ∀ i, i < k → q i < w.heap.size := fun i hi => (h.lq i hi).lt
  have vlt : ∀ i g, i < k → blk (v i) = some g → g < w.heap.size := fun i g hi hg => (h.lq i hi).row.lt hg
  refine ⟨?_, fun i hi => ?_, fun i hi => ?_, fun i g hi hg => ?_, fun i j hi hj e => ?_, fun i j g hi hj e1 e2 => ?_, ?_, h.qbn⟩
  · rw [setCell_eq_setRow w' qb k _ 57 (0, 0) _ h2.row, setRow_heap w' qb _ _ 57 _ h2.row, ← rowOf_step q]
    simp
  · by_cases e : i = k
    · subst e; rw [upd_same, upd_same, upd_same, upd_same]; exact far hq
    · rw [upd_other _ _ e, upd_other _ _ e, upd_other _ _ e, upd_other _ _ e]; exact far (h2.lq i (by omega))
  · by_cases e : i = k
    · subst e; rw [upd_same]; omega
    · rw [upd_other _ _ e]; exact h.hi i (by omega)
  · by_cases e : i = k
    · subst e; rw [upd_same] at hg; have := hvn g hg; omega
    · rw [upd_other _ _ e] at hg; exact h.vhi i g (by omega) hg
  · by_cases d1 : i = k
    · by_cases d2 : j = k
      · omega
      · subst d1; rw [upd_same, upd_other _ _ d2] at e; have := qlt j (by omega); omega
    · by_cases d2 : j = k
      · subst d2; rw [upd_same, upd_other _ _ d1] at e; have := qlt i (by omega); omega
      · rw [upd_other _ _ d1, upd_other _ _ d2] at e; exact h.qq i j (by omega) (by omega) e
  · by_cases d1 : i = k
    · by_cases d2 : j = k
      · omega
      · subst d1; rw [upd_same] at e1; rw [upd_other _ _ d2] at e2; have := hvn g e1; have := vlt j g (by omega) e2; omega
    · by_cases d2 : j = k
      · subst d2; rw [upd_same] at e2; rw [upd_other _ _ d1] at e1; have := hvn g e2; have := vlt i g (by omega) e1; omega
      · rw [upd_other _ _ d1] at e1; rw [upd_other _ _ d2] at e2; exact h.vv i j g (by omega) (by omega) e1 e2
  · exact h2.below.setCell (p := ⟨qb, k, none⟩) h.qbn _
end
/-- locks out of new queues -/
theorem Fil.pl {w0 W : World} {a : Lk} {n qb th mb Q : Nat} {q : Nat → Nat} {v : Nat → Value} {M : Nat → Int} {tv : Value} {G : Nat → Prop} {m : Int → Option Value} (hF : Fil w0 W qb a.bl a.bl q v (fun i => qS a.L i) M) (hM : ∀ i, i < a.bl → M i ≤ a.last) (ht : QAt 59 W th tv (tix a.L) a.last) (hth : ∀ i, i < a.bl → q i < th) (htv : ∀ i g, i < a.bl → blk (v i) = some g → ¬ blk tv = some g)
    (hc : CM W G mb n a.L m) (st : W.heap[Q]? = some (.cells #[.slice (some ⟨qb, 0, none⟩) a.bl a.bl, qp th, .map (some mb)] 66 (0, 0))) (ok : Ok a) (hl : a.L.length ≤ n) : PL W ⟨Q, qb, q, v, th, tv, mb, G, m⟩ n a :=
  ⟨st, by have := hF.row; rw [rowOf_all ⟨Q, qb, q, v, th, tv, mb, G, m⟩ a.bl] at this; exact this, fun i hi => ⟨M i, hM i hi, hF.lq i hi⟩, ht, hc, ok, hl, hF.qq, fun i hi => Nat.ne_of_lt (hth i hi), hF.vv, htv⟩
theorem info_pq : (Tryz.prog.info? 57).map (fun i => (i.zero, i.size, i.bytes)) = some (some nilq, 1, 8) := by kernel_rfl
set_option maxHeartbeats 2000000 in
set_option maxRecDepth 100000 in
theorem new_bad (i : Int) (w : World) (h : i < 1 ∨ 64 < i) : Calls Tryz.prog 7 #[.int .i64 i] w fun e w' => e = .returned (.tuple #[nilq, .int .i64 2]) ∧ w = w' := by
  rcases h with h | h
  · go_enter Tryz.func7, Tryz.ntmps7
    go_wp2
    go_ret2
    exact ⟨rfl, rfl⟩
  · have c1 : ¬ i < 1 := by omega
    go_enter Tryz.func7, Tryz.ntmps7
    go_wp2
    go_ret2
    exact ⟨rfl, rfl⟩
set_option maxHeartbeats 2000000 in
set_option maxRecDepth 100000 in
theorem new_ok (N : Nat) (w : World) (h1 : 1 ≤ N) (h2 : N ≤ 64) : Calls Tryz.prog 7 #[.int .i64 N] w fun e w' => ∃ F, e = .returned (.tuple #[qp F.Q, .int .i64 0]) ∧ PL w' F 0 ⟨N, 0, []⟩ ∧ (∀ b, F.has N b → w.heap.size ≤ b) ∧ (∀ g, ¬ F.G g) ∧ Below w.heap.size w w' := by
  have hmk := run_make_row' (P := Tryz.prog) 63 57 nilq 8 Tryz.underlying63 info_pq rfl .i64 .i64 N (by omega) (by omega) w
  have c1 : ¬ (N : Int) < 1 := by omega
  have c2 : ¬ (64 : Int) < (N : Int) := by omega
  have HF : Hid (Fil w (w.alloc (.cells (madeCells #[nilq] N) 57)) w.heap.size N 0 (fun _ => 0) (fun _ => nils) (fun _ => []) (fun _ => 0)) := Fil.start w N _ _ _ _
  obtain ⟨W1, hW1⟩ : ∃ x, w.alloc (.cells (madeCells #[nilq] N) 57) = x := ⟨_, rfl⟩
  rw [hW1] at HF hmk
  clear hW1
  go_enter Tryz.func7, Tryz.ntmps7
  go_wp2
  clear hmk
  go_loopw [16] (fun i wr => ∃ k : Nat, k ≤ N ∧ i = .int .i64 k ∧ Hid (∃ q, Fil w wr w.heap.size N k q (fun _ => nils) (fun _ => []) (fun _ => 0))) (fun i _ => N - (intOf i).toNat)
  case atStart => exact ⟨0, Nat.zero_le _, rfl, _, HF.out⟩
  case round =>
    obtain ⟨k, hk2, rfl, HW⟩ := hrel
    clear HF
    by_cases hlt : k < N
    · obtain ⟨q, hF⟩ := HW.out
      have hq : QAt 59 (wr.alloc (.cells #[nils, .int .u64 0] 59)) wr.heap.size nils [] 0 := QAt.new wr 59 (m := 0) (Row.empty wr)
      have hF2 := hF.store hlt (below_alloc wr (.cells #[nils, .int .u64 0] 59)) hq (Nat.le_refl _) (fun g hg => by cases hg)
      have c0 : (wr.alloc (.cells #[nils, .int .u64 0] 59)).cell? ⟨w.heap.size, k, none⟩ = some nilq := by
        rw [cell_of_row _ _ k _ 57 (0, 0) (hF.later (below_alloc wr _)).row]
        simp [rowOf, hlt]
      have f0 : (wr.alloc (.cells #[nils, .int .u64 0] 59)).frozen? ⟨w.heap.size, k, none⟩ = false := by simp [World.frozen?, (hF.later (below_alloc wr (.cells #[nils, .int .u64 0] 59))).row]
      have HF2 : Hid (∃ q, Fil w ((wr.alloc (.cells #[nils, .int .u64 0] 59)).setCell ⟨w.heap.size, k, none⟩ (qp wr.heap.size)) w.heap.size N (k + 1) q (fun _ => nils) (fun _ => []) (fun _ => 0)) := by
        refine ⟨upd q k wr.heap.size, hF2.row, fun i hi => ?_, hF2.hi, fun i g hi hg => (by cases hg), hF2.qq, fun i j g hi hj e => (by cases e), hF2.below, hF2.qbn⟩
        have := hF2.lq i hi
        by_cases e : i = k
        · subst e; simp only [upd_same] at this ⊢; exact this
        · simp only [upd_other _ _ e] at this ⊢; exact this
      have i1 : (k : Int) < (N : Int) := by omega
      clear hF hF2 hq HW
      go_wp2
      go_roundw
      case rel => exact ⟨k + 1, by omega, by go_num, HF2.out⟩
      case measure => simp [intOf]; omega
    · obtain rfl : k = N := by omega
      obtain ⟨q, hF⟩ := HW.out
      have HF : Hid (Fil w wr w.heap.size k k q (fun _ => nils) (fun _ => []) (fun _ => 0)) := hF
      clear hF HW
      have hmm := @run_makeMap Tryz.prog
      go_wp2
      go_ret2
      refine ⟨⟨wr.heap.size + 1 + 1, w.heap.size, q, fun _ => nils, wr.heap.size, nils, wr.heap.size + 1, fun _ => False, fun _ => none⟩, rfl, ?_, ?_, fun g hg => hg, ?_⟩
      · obtain ⟨V, hV⟩ : ∃ V, (wr.alloc (.cells #[nils, .int .u64 0] 59)).alloc (.map #[] 0) = V := ⟨_, rfl⟩
        have hVs : V.heap.size = wr.heap.size + 1 + 1 := by rw [← hV]; simp
        have q1 := QAt.new wr 59 (m := 0) (Row.empty wr)
        have m1 := VMp.made (wr.alloc (.cells #[nils, .int .u64 0] 59))
        have b1 : Below (wr.alloc (.cells #[nils, .int .u64 0] 59)).heap.size (wr.alloc (.cells #[nils, .int .u64 0] 59)) V := by rw [← hV]; exact below_alloc _ _
        have b0 : Below wr.heap.size wr V := below_then (below_alloc wr _) b1
        have bV := below_alloc V (.cells #[.slice (some ⟨w.heap.size, 0, none⟩) k k, qp wr.heap.size, .map (some (wr.heap.size + 1))] 66)
        have st := heap_alloc_new V (.cells #[.slice (some ⟨w.heap.size, 0, none⟩) k k, qp wr.heap.size, .map (some (wr.heap.size + 1))] 66)
        rw [hV] at m1
        rw [hVs] at st
        simp only [World.size_alloc] at m1
        rw [hV]
        refine Fil.pl (a := ⟨k, 0, []⟩) (M := fun _ => 0) ((HF.out.later b0).later bV) (fun _ _ => Int.le_refl _) ((q1.later b1).later bV) (fun i hi => (HF.out.lq i hi).lt) (fun i g hi hg => by cases hg) ⟨m1.kept (bV.block _ (by rw [hVs]; omega)), fun _ _ _ => rfl, fun e he => by cases he⟩ st (Ok.new h1 h2) (Nat.le_refl _)
      · have hs := HF.out.below.size
        have hs2 : w.heap.size < wr.heap.size := (Array.getElem?_eq_some_iff.1 HF.out.row).1
        rintro b (rfl | rfl | ⟨i, hi, rfl⟩ | ⟨i, hi, e⟩ | rfl | e | rfl)
        · show w.heap.size ≤ wr.heap.size + 1 + 1; omega
        · exact Nat.le_refl _
        · exact HF.out.hi i hi
        · cases e
        · exact hs
        · cases e
        · show w.heap.size ≤ wr.heap.size + 1; omega
      · exact below_then HF.out.below (below_then (below_alloc _ _) (below_then (below_alloc _ _) (below_alloc _ _)))
theorem copied {w wr wd w5 w6 : World} {F : Ft} {n Q5 : Nat} {a : Lk} {v5 : Value} {q : Nat → Nat} {v : Nat → Value} {M : Nat → Int} (h : PL w F n a) (hM : ∀ i, i < a.bl → M i ≤ a.last) (hF : Fil w wr w.heap.size a.bl a.bl q v (fun i => qS a.L i) M) (hBd : Below wr.heap.size wr wd)
    (h5 : QAt 59 w5 Q5 v5 (tix a.L) a.last ∧ wd.heap.size ≤ Q5 ∧ (∀ g, blk v5 = some g → wd.heap.size ≤ g) ∧ Below wd.heap.size wd w5) (hB5 : Below wr.heap.size wr w5) (h6 : VMp w6 w5.heap.size n F.m ∧ Below w5.heap.size w5 w6) :
    ∃ F', qp w6.heap.size = qp F'.Q ∧ PL (w6.alloc (.cells #[.slice (some ⟨w.heap.size, 0, none⟩) a.bl a.bl, qp Q5, .map (some w5.heap.size)] 66)) F' n a ∧ (∀ b, F'.has a.bl b → w.heap.size ≤ b) ∧ (∀ g, F'.G g → F.G g) ∧ Below w.heap.size w (w6.alloc (.cells #[.slice (some ⟨w.heap.size, 0, none⟩) a.bl a.bl, qp Q5, .map (some w5.heap.size)] 66)) := by
  have bV := below_alloc w6 (.cells #[.slice (some ⟨w.heap.size, 0, none⟩) a.bl a.bl, qp Q5, .map (some w5.heap.size)] 66)
  have b56 := below_then h6.2 bV
  have bw := below_then (below_then hF.below hB5) b56
  have s1 := hF.below.size
  have s2 := hBd.size
  have s3 := h5.2.2.2.size
  have s4 := h6.2.size
  have hs2 : w.heap.size < wr.heap.size := (Array.getElem?_eq_some_iff.1 hF.row).1
  refine ⟨⟨w6.heap.size, w.heap.size, q, v, Q5, v5, w5.heap.size, F.G, F.m⟩, rfl, Fil.pl ((hF.later hB5).later b56) hM (h5.1.later b56) (fun i hi => ?_) (fun i g hi hg e => ?_) ⟨h6.1.kept (bV.block _ h6.1.lt), h.cm.out, fun e he => ?_⟩ (heap_alloc_new w6 _) h.ok h.len, ?_, fun g hg => hg, bw⟩
  · have := (hF.lq i hi).lt; omega
  · have := (hF.lq i hi).row.lt hg; have := h5.2.2.1 g e; omega
  · obtain ⟨p, c, e1, e2, e3⟩ := h.cm.ins e he
    exact ⟨p, c, e1, e2.later bw, e3⟩
  · rintro b (rfl | rfl | ⟨i, hi, rfl⟩ | ⟨i, hi, e⟩ | rfl | e | rfl)
    · show w.heap.size ≤ w6.heap.size; omega
    · exact Nat.le_refl _
    · exact hF.hi i hi
    · exact hF.vhi i b hi e
    · have := h5.2.1; omega
    · have := h5.2.2.1 b e; omega
    · show w.heap.size ≤ w5.heap.size; omega
end Go.Proofs.YtkgjmejpbklabaaGreat.K
