/-
  Layer 14: slices.Clone of numbers; Held, Holder.
-/
import Derived.Test.YtkffmglcllhbmaaKc
namespace Go.Proofs.Ytkffmglcllhbmaa
open Go.RowKit


theorem IIn.take {w : World} {p : Option Addr} {f : List Int} (h : B.IIn w p f.length f) (d : Nat) (hd : d ≤ f.length) : B.IIn w p d (f.take d) := by
  refine ⟨by simp; omega, fun h0 => ?_⟩
  obtain ⟨b, o, rfl, hc⟩ := h.cells (by omega)
  refine ⟨b, o, rfl, fun i hi => ?_⟩
  rw [hc i (by omega)]
  simp [List.getD, hi]
set_option maxHeartbeats 1000000 in
set_option maxRecDepth 100000 in
theorem cloneI_nil (w : World) : Calls Try.prog 38 #[nils] w fun e w' => e = .returned nils ∧ w' = w := by
  have hnn : ∀ w : World, (binOp BinOp.eql 37 (.slice none 0 0) (.slice none 0 0)).run Try.prog w = .ok (.bool true) w := fun w => by kernel_rfl
  go_enter Try.func38, Try.ntmps38
  go_wp2
  go_ret
  exact ⟨rfl, rfl⟩
theorem empty_own (w : World) : (w.alloc (.cells #[] 3)).ownsRow w.heap.size 3 1 (.slice (some ⟨w.heap.size, 0, none⟩) 0 0) 0 [] := ⟨rfl, .inr ⟨w.heap.size, 0, #[], rfl, Nat.le_refl _, heap_alloc_new w _, Nat.le_refl _, Nat.zero_le _, rfl, rfl⟩⟩
set_option maxHeartbeats 1000000 in
set_option maxRecDepth 100000 in
/-- slices.Clone: of nil nil -/
theorem cloneI_at {w : World} {p : Option Addr} {k c : Nat} {f : List Int} (hI : B.IIn w p k f) (hkc : k ≤ c) (hp0 : p = none → c = 0) (hk : k * 8 ≤ 140737488355328) : Calls Try.prog 38 #[.slice p k c] w fun e w' => ∃ q d, e = .returned (.slice q k d) ∧ B.Made w w' q k d f := by
  cases p with
  | none =>
    obtain rfl := hp0 rfl
    obtain rfl : k = 0 := by omega
    obtain rfl : f = [] := List.eq_nil_of_length_eq_zero hI.len
    refine (cloneI_nil w).mono ?_
    rintro e w' ⟨rfl, rfl⟩
    exact ⟨none, 0, rfl, B.made_nil _ (Below.refl _ _)⟩
  | some ad =>
    obtain ⟨i0, hi, hz0, hz1, hz2⟩ := info_parts B.info3
    have hml : 17592186044416 ≤ maxLen := by decide
    have HI : Hid (B.IIn w (some ad) k f) := hI
    clear hI
    have hnn : ∀ w : World, (binOp BinOp.eql 37 (.slice (some ad) k c) (.slice none 0 0)).run Try.prog w = .ok (.bool false) w := fun w => by kernel_rfl
    go_enter Try.func38, Try.ntmps38
    go_wp2_with (at_builtin; (refine B.wpList_append_any _ rfl (.tmp 5) (.tmp 6) 37 rfl w.heap.size 3 i0 (.int .i64 0) 8 Try.underlying37 hi hz0 hz1 hz2 rfl (.slice (some ⟨w.heap.size, 0, none⟩) 0 0) 0 [] rfl (empty_own w) (some ad) k c (B.I64 f) rfl hp0 hkc (by simpa using HI.out.len) ((HI.out.later (below_alloc w _)).newsAny) (B.ones_i64 f) (by omega) (by omega) (by simp) ?_; intro v2 w2 r2 k2; have R2 : Hid (w2.ownsRow w.heap.size 3 1 v2 k (B.I64 f) ∧ (w.alloc (.cells #[] 3)).grownBy w2 (some w.heap.size)) := ⟨by simpa using r2, k2⟩; clear r2 k2))
    go_ret
    have hb : Below w.heap.size w w2 := (Kept.of_grown R2.out.2).into (below_alloc w _) (fun b hb e => by omega) (Nat.le_refl _)
    obtain ⟨q, d, rfl, hm⟩ := B.made_of R2.out.1 hb
    exact ⟨q, d, rfl, hm⟩
section
variable {w : World} {F : Ft} {n : Nat} {a : Lk}
theorem held_len {e : En} (h : e.d ≤ e.s.length) : e.held.length = e.d := by simp [En.held]; omega
set_option maxHeartbeats 1000000 in
set_option maxRecDepth 100000 in
theorem held_at (h : PL w F n a) {t : Int} (ht : U64 t) : Calls Try.prog 15 #[qp F.Q, .int .u64 t] w fun e w' => ∃ q c, e = .returned (.slice q (ent a.L t).d c) ∧ B.Made w w' q (ent a.L t).d c (ent a.L t).held := by
  have hd := ent_don h.ok t
  have hl := ent_len h.ok t
  have HH : Hid ((ent a.L t).s.take (ent a.L t).d = (ent a.L t).held) := rfl
  go_enter Try.func15, Try.ntmps15
  go_wp2_with (first
    | (go_at_call 35; refine (claimOf_at h ht).mono ?_; rintro e w1 ⟨p, c, rfl, h1, _, h2⟩; obtain ⟨p', c', e', hI, hkc, hp0⟩ := h1.read; simp only [Value.slice.injEq] at e'; obtain ⟨rfl, _, rfl⟩ := e'; have H1 : Hid (B.IIn w1 p (ent a.L t).s.length (ent a.L t).s ∧ Below w.heap.size w w1) := ⟨hI, h2⟩; clear h1 h2 h hI)
    | (go_at_call 39; refine (held_is _ p (ent a.L t).s.length c (ent a.L t).d (by omega)).mono ?_; rintro e w2 ⟨rfl, h2⟩; have H2 : Hid (B.IIn w2 p (ent a.L t).d (ent a.L t).held ∧ Below w.heap.size w w2) := ⟨IIn.take ((H1.out.1.later (below_alloc _ _)).later h2) _ hd, below_then (below_then H1.out.2 (below_alloc _ _)) h2⟩; clear h2)
    | (go_at_call 38; refine (cloneI_at H2.out.1 (by omega) hp0 (by omega)).mono ?_; rintro e w3 ⟨q, d, rfl, hm⟩; have HM : Hid (B.Made w2 w3 q (ent a.L t).d d (ent a.L t).held) := hm; clear hm))
  go_ret
  exact ⟨q, d, rfl, B.own_mono HM.out.own H2.out.2.size, below_then H2.out.2 HM.out.below⟩
set_option maxHeartbeats 1000000 in
set_option maxRecDepth 100000 in
theorem held_nil (w : World) (t : Int) : Calls Try.prog 15 #[nilq, .int .u64 t] w fun e w' => e = .returned nils ∧ Below w.heap.size w w' := by
  go_enter Try.func15, Try.ntmps15
  go_wp2_with (first
    | (go_at_call 35; refine (claimOf_nil w t).mono ?_; rintro e w1 ⟨rfl, h2⟩; have H1 : Hid (Below w.heap.size w w1) := h2; clear h2)
    | (go_at_call 39; refine (held_is _ none 0 0 0 (by omega)).mono ?_; rintro e w2 ⟨rfl, h2⟩; have H2 : Hid (Below w.heap.size w w2) := below_then (below_then H1.out (below_alloc _ _)) h2; clear h2)
    | (go_at_call 38; refine (cloneI_nil _).mono ?_; rintro e w3 ⟨rfl, rfl⟩))
  go_ret
  exact ⟨rfl, H2.out⟩
theorem PL.hdU (h : PL w F n a) (b : Int) : U64 (hdv (qS a.L b)) := by
  cases hq : qS a.L b with
  | nil => exact u64_small (by simp [hdv]) (by simp [hdv])
  | cons x r =>
    obtain ⟨e, he, _, rfl⟩ := qS_mem.1 (show x ∈ qS a.L b by rw [hq]; simp)
    have h1 := h.ok.pos e he
    have h2 := h.ok.top e he
    have h3 := h.ok.lastU
    exact u64_small (by show 0 ≤ e.t; omega) (by show e.t ≤ _; omega)
set_option maxHeartbeats 1000000 in
set_option maxRecDepth 100000 in
theorem holder_at (h : PL w F n a) (hn : n ≤ 10000) (b : Int) : Calls Try.prog 24 #[qp F.Q, .int .i64 b] w fun e w' => e = .returned (.tuple #[.int .u64 (hldN a.L b), .bool (hldB a.L b)]) ∧ Below w.heap.size w w' := by
  have hU := h.hdU b
  have HE : Hid (hldN a.L b = if hldB a.L b then hdv (qS a.L b) else 0) := rfl
  have HB : Hid (B.hasS (ent a.L (hdv (qS a.L b))).held b = hldB a.L b) := rfl
  have HF : Hid (Calls Try.prog 34 #[qp F.Q, .int .i64 b] w fun e w' => e = .returned (.int .u64 (hdv (qS a.L b))) ∧ Below w.heap.size w w') := first_at h hn b
  have H : Hid (PL w F n a) := h
  clear h
  generalize hdv (qS a.L b) = t at *
  have hd := ent_don H.out.ok t
  have hl := ent_len H.out.ok t
  cases hh : hldB a.L b
  all_goals (rw [hh] at HE HB)
  · have HE0 : Hid (hldN a.L b = 0) := HE.out
    clear HE
    go_enter Try.func24, Try.ntmps24
    go_wp2_with (first
      | (go_at_call 34; refine HF.out.mono ?_; rintro e w1 ⟨rfl, h1⟩; have H1 : Hid (Below w.heap.size w w1) := h1; clear h1)
      | (go_at_call 35; refine (claimOf_at (H.out.later H1.out) hU).mono ?_; rintro e w2 ⟨p, c, rfl, h1, _, h2⟩; obtain ⟨p', c', e', hI, hkc, hp0⟩ := h1.read; simp only [Value.slice.injEq] at e'; obtain ⟨rfl, _, rfl⟩ := e'; have H2 : Hid (B.IIn w2 p (ent a.L t).s.length (ent a.L t).s ∧ Below w.heap.size w w2) := ⟨hI, below_then H1.out h2⟩; clear h1 h2 hI)
      | (go_at_call 39; refine (held_is _ p (ent a.L t).s.length c (ent a.L t).d (by omega)).mono ?_; rintro e w3 ⟨rfl, h2⟩; have H3 : Hid (B.IIn w3 p (ent a.L t).d (ent a.L t).held ∧ Below w.heap.size w w3) := ⟨IIn.take ((H2.out.1.later (below_alloc _ _)).later h2) _ hd, below_then (below_then H2.out.2 (below_alloc _ _)) h2⟩; clear h2)
      | (go_at_call 44; refine (B.has_is _ _ _ _ b _ H3.out.1 (by omega)).mono ?_; rw [HB.out]; rintro e w4 ⟨rfl, rfl⟩))
    go_ret2
    exact ⟨by rw [HE0.out]; rfl, H3.out.2⟩
  · have HE0 : Hid (hldN a.L b = t) := HE.out
    clear HE
    go_enter Try.func24, Try.ntmps24
    go_wp2_with (first
      | (go_at_call 34; refine HF.out.mono ?_; rintro e w1 ⟨rfl, h1⟩; have H1 : Hid (Below w.heap.size w w1) := h1; clear h1)
      | (go_at_call 35; refine (claimOf_at (H.out.later H1.out) hU).mono ?_; rintro e w2 ⟨p, c, rfl, h1, _, h2⟩; obtain ⟨p', c', e', hI, hkc, hp0⟩ := h1.read; simp only [Value.slice.injEq] at e'; obtain ⟨rfl, _, rfl⟩ := e'; have H2 : Hid (B.IIn w2 p (ent a.L t).s.length (ent a.L t).s ∧ Below w.heap.size w w2) := ⟨hI, below_then H1.out h2⟩; clear h1 h2 hI)
      | (go_at_call 39; refine (held_is _ p (ent a.L t).s.length c (ent a.L t).d (by omega)).mono ?_; rintro e w3 ⟨rfl, h2⟩; have H3 : Hid (B.IIn w3 p (ent a.L t).d (ent a.L t).held ∧ Below w.heap.size w w3) := ⟨IIn.take ((H2.out.1.later (below_alloc _ _)).later h2) _ hd, below_then (below_then H2.out.2 (below_alloc _ _)) h2⟩; clear h2)
      | (go_at_call 44; refine (B.has_is _ _ _ _ b _ H3.out.1 (by omega)).mono ?_; rw [HB.out]; rintro e w4 ⟨rfl, rfl⟩))
    go_ret2
    exact ⟨by rw [HE0.out]; rfl, H3.out.2⟩
set_option maxHeartbeats 1000000 in
set_option maxRecDepth 100000 in
theorem holder_nil (w : World) (b : Int) : Calls Try.prog 24 #[nilq, .int .i64 b] w fun e w' => e = .returned (.tuple #[.int .u64 0, .bool false]) ∧ Below w.heap.size w w' := by
  have hE : Hid (B.hasS [] b = false) := rfl
  go_enter Try.func24, Try.ntmps24
  go_wp2_with (first
    | (go_at_call 34; refine (first_nil w b).mono ?_; rintro e w1 ⟨rfl, h1⟩; have H1 : Hid (Below w.heap.size w w1) := h1; clear h1)
    | (go_at_call 35; refine (claimOf_nil w1 0).mono ?_; rintro e w2 ⟨rfl, h2⟩; have H2 : Hid (Below w.heap.size w w2) := below_then H1.out h2; clear h2)
    | (go_at_call 39; refine (held_is _ none 0 0 0 (by omega)).mono ?_; rintro e w3 ⟨rfl, h2⟩; have H3 : Hid (Below w.heap.size w w3) := below_then (below_then H2.out (below_alloc _ _)) h2; clear h2)
    | (go_at_call 44; refine (B.has_is _ _ _ [] b _ (B.IIn.nil _ _) (by omega)).mono ?_; rw [hE.out]; rintro e w4 ⟨rfl, rfl⟩))
  go_ret2
  exact ⟨rfl, H3.out⟩
end
end Go.Proofs.Ytkffmglcllhbmaa
