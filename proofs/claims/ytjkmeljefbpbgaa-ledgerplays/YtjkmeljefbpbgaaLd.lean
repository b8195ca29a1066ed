/-
  Layer 12: a ledger of one's own; awake, LedgerNames.
-/
import Derived.Test.YtjkmeljefbpbgaaLc
namespace Go.Proofs.Ytjkmeljefbpbgaa
open Go.RowKit


/-- a ledger that was made since w0 -/
structure Own (w0 w : World) (Q b n : Nat) (s : Lg) : Prop where
  at' : LAt w Q b n s
  ok : Ok s
  lo : w0.heap.size ≤ Q
  lob : w0.heap.size ≤ b
  below : Below w0.heap.size w0 w
section
variable {w0 w w' : World} {Q b n : Nat} {s : Lg}
theorem Own.later (h : Own w0 w Q b n s) (hb : Below w.heap.size w w') : Own w0 w' Q b n s := ⟨h.at'.later hb, h.ok, h.lo, h.lob, below_then h.below hb⟩
theorem Own.turn {n' : Nat} {s' : Lg} (h : Own w0 w Q b n s) (h' : LAt w' Q b n' s') (ok : Ok s') (hk : Kept (LF Q b) w w') : Own w0 w' Q b n' s' :=
  ⟨h', ok, h.lo, h.lob, hk.into h.below (fun x hx e => by have := h.lo; have := h.lob; rcases e with e | e <;> omega) (Nat.le_refl _)⟩
theorem o_new (w0 w : World) (hb : Below w0.heap.size w0 w) {c m : Int} (h : mayNew c m) : Calls Try.prog 6 #[.int .i64 c, .int .i64 m] w fun e w' => e = .returned (.tuple #[lp (w.heap.size + 1), .int .i64 0]) ∧ Own w0 w' (w.heap.size + 1) w.heap.size 0 (newS c m) :=
  (new_ok w h).mono fun e w' ⟨h1, h2, h3⟩ => ⟨h1, h2, Ok.new h, by have := hb.size; omega, hb.size, below_then hb h3⟩
theorem o_reserve (h : Own w0 w Q b n s) (hn : n < 10000) {t : Int} (ht : U64 t) (k : Int) {r : Int} {s' : Lg} (hr : rsvE s t k = r) (hs : rsvS s t k = s') :
    Calls Try.prog 10 #[lp Q, .int .u64 t, .int .i64 k] w fun e w' => e = .returned (.int .i64 r) ∧ Own w0 w' Q b (n + 1) s' := by
  subst hr hs
  exact (reserve_at h.at' h.ok hn ht k).mono fun e w' ⟨h1, h2, h3⟩ => ⟨h1, h.turn h2 (h.ok.rsv t k) h3⟩
theorem o_append (h : Own w0 w Q b n s) (hn : n < 10000) {t : Int} (ht : U64 t) {r : Int} {s' : Lg} (hr : appE s t = r) (hs : appS s t = s') :
    Calls Try.prog 11 #[lp Q, .int .u64 t] w fun e w' => e = .returned (.int .i64 r) ∧ Own w0 w' Q b (n + 1) s' := by
  subst hr hs
  exact (append_at h.at' h.ok hn ht).mono fun e w' ⟨h1, h2, h3⟩ => ⟨h1, h.turn h2 (h.ok.app t) h3⟩
theorem o_close (h : Own w0 w Q b n s) {t : Int} (ht : U64 t) {r : Int} {s' : Lg} (hr : clsE s t = r) (hs : clsS s t = s') :
    Calls Try.prog 12 #[lp Q, .int .u64 t] w fun e w' => e = .returned (.int .i64 r) ∧ Own w0 w' Q b (n + 1) s' := by
  subst hr hs
  exact (close_at h.at' h.ok ht).mono fun e w' ⟨h1, h2, h3⟩ => ⟨h1, h.turn h2 (h.ok.cls t) h3⟩
theorem o_free (h : Own w0 w Q b n s) (k : Int) {r : Int} {s' : Lg} (hr : freE s k = r) (hs : freS s k = s') :
    Calls Try.prog 13 #[lp Q, .int .i64 k] w fun e w' => e = .returned (.int .i64 r) ∧ Own w0 w' Q b (n + 1) s' := by
  subst hr hs
  exact (free_at h.at' h.ok k).mono fun e w' ⟨h1, h2, h3⟩ => ⟨h1, h.turn h2 (h.ok.fre k) h3⟩
theorem o_fits (h : Own w0 w Q b n s) (k : Int) {f : Bool} (hf : fitsS s k = f) : Calls Try.prog 15 #[lp Q, .int .i64 k] w fun e w' => e = .returned (.bool f) ∧ Own w0 w' Q b n s := by
  subst hf
  refine (fits_at h.at' h.ok k).mono fun e w' hh => ?_
  obtain ⟨h1, m, rfl⟩ := hh
  exact ⟨h1, h.later (below_drawn m)⟩
theorem o_marked (h : Own w0 w Q b n s) {f : Bool} (hf : markedS s = f) : Calls Try.prog 16 #[lp Q] w fun e w' => e = .returned (.bool f) ∧ Own w0 w' Q b n s := by
  subst hf
  refine (marked_at h.at').mono fun e w' hh => ?_
  obtain ⟨h1, m, rfl⟩ := hh
  exact ⟨h1, h.later (below_drawn m)⟩
theorem o_left (h : Own w0 w Q b n s) {t : Int} (ht : U64 t) {a : Int} {c : Bool} (ha : (look t s.L).getD 0 = a) (hc : (look t s.L).isSome = c) : Calls Try.prog 14 #[lp Q, .int .u64 t] w fun e w' => e = .returned (.tuple #[.int .i64 a, .bool c]) ∧ Own w0 w' Q b n s := by
  subst ha hc
  exact (left_at h.at' ht).mono fun e w' ⟨h1, h2⟩ => ⟨h1, by rw [h2]; exact h⟩
theorem o_used (h : Own w0 w Q b n s) {a : Int} (ha : s.used = a) : Calls Try.prog 8 #[lp Q] w fun e w' => e = .returned (.int .i64 a) ∧ Own w0 w' Q b n s := by
  subst ha
  exact (used_at h.at').mono fun e w' ⟨h1, h2⟩ => ⟨h1, by rw [h2]; exact h⟩
theorem o_reserved (h : Own w0 w Q b n s) {a : Int} (ha : total s.L = a) : Calls Try.prog 9 #[lp Q] w fun e w' => e = .returned (.int .i64 a) ∧ Own w0 w' Q b n s := by
  subst ha
  exact (reserved_at h.at').mono fun e w' ⟨h1, h2⟩ => ⟨h1, by rw [h2]; exact h⟩
set_option maxHeartbeats 2000000 in
set_option maxRecDepth 100000 in
theorem awake_any (w0 : World) : Calls Try.prog 7 #[] w0 fun e w' => e = .returned (.bool true) ∧ Below w0.heap.size w0 w' := by
  have hb0 : Hid (Below w0.heap.size w0 w0) := Below.refl _ _
  go_enter Try.func7, Try.ntmps7
  go_wp2_with fail
  refine (o_new w0 w0 hb0.out (c := 4) (m := 3) (by decide)).mono ?_
  rintro e wn ⟨rfl, h⟩
  revert h
  generalize w0.heap.size + 1 = Q
  generalize w0.heap.size = b
  intro h
  have H0 : Hid (Own w0 wn Q b 0 ⟨4, 3, 0, []⟩) := h
  clear h
  go_wp2_with fail
  refine (o_fits H0.out 4 (f := true) (by rfl)).mono ?_
  rintro e w1 ⟨rfl, h⟩
  have H1 : Hid (Own w0 w1 Q b 0 ⟨4, 3, 0, []⟩) := h
  clear h H0
  go_wp2_with fail
  refine (o_fits H1.out 5 (f := false) (by rfl)).mono ?_
  rintro e w2 ⟨rfl, h⟩
  have H2 : Hid (Own w0 w2 Q b 0 ⟨4, 3, 0, []⟩) := h
  clear h H1
  go_wp2_with fail
  refine (o_reserve H2.out (by decide) (by decide) 3 (r := 0) (s' := ⟨4, 3, 0, [(7, 3)]⟩) (by rfl) (by rfl)).mono ?_
  rintro e w3 ⟨rfl, h⟩
  have H3 : Hid (Own w0 w3 Q b 1 ⟨4, 3, 0, [(7, 3)]⟩) := h
  clear h H2
  go_wp2_with fail
  refine (o_reserve H3.out (by decide) (by decide) 1 (r := 110) (s' := ⟨4, 3, 0, [(7, 3)]⟩) (by rfl) (by rfl)).mono ?_
  rintro e w4 ⟨rfl, h⟩
  have H4 : Hid (Own w0 w4 Q b 2 ⟨4, 3, 0, [(7, 3)]⟩) := h
  clear h H3
  go_wp2_with fail
  refine (o_reserve H4.out (by decide) (by decide) 2 (r := 120) (s' := ⟨4, 3, 0, [(7, 3)]⟩) (by rfl) (by rfl)).mono ?_
  rintro e w5 ⟨rfl, h⟩
  have H5 : Hid (Own w0 w5 Q b 3 ⟨4, 3, 0, [(7, 3)]⟩) := h
  clear h H4
  go_wp2_with fail
  refine (o_append H5.out (by decide) (by decide) (r := 0) (s' := ⟨4, 3, 1, [(7, 2)]⟩) (by rfl) (by rfl)).mono ?_
  rintro e w6 ⟨rfl, h⟩
  have H6 : Hid (Own w0 w6 Q b 4 ⟨4, 3, 1, [(7, 2)]⟩) := h
  clear h H5
  go_wp2_with fail
  refine (o_append H6.out (by decide) (by decide) (r := 0) (s' := ⟨4, 3, 2, [(7, 1)]⟩) (by rfl) (by rfl)).mono ?_
  rintro e w7 ⟨rfl, h⟩
  have H7 : Hid (Own w0 w7 Q b 5 ⟨4, 3, 2, [(7, 1)]⟩) := h
  clear h H6
  go_wp2_with fail
  refine (o_append H7.out (by decide) (by decide) (r := 110) (s' := ⟨4, 3, 2, [(7, 1)]⟩) (by rfl) (by rfl)).mono ?_
  rintro e w8 ⟨rfl, h⟩
  have H8 : Hid (Own w0 w8 Q b 6 ⟨4, 3, 2, [(7, 1)]⟩) := h
  clear h H7
  go_wp2_with fail
  refine (o_left H8.out (by decide) (a := 1) (c := true) (by rfl) (by rfl)).mono ?_
  rintro e w9 ⟨rfl, h⟩
  have H9 : Hid (Own w0 w9 Q b 6 ⟨4, 3, 2, [(7, 1)]⟩) := h
  clear h H8
  go_wp2_with fail
  refine (o_used H9.out (a := 2) (by rfl)).mono ?_
  rintro e w10 ⟨rfl, h⟩
  have H10 : Hid (Own w0 w10 Q b 6 ⟨4, 3, 2, [(7, 1)]⟩) := h
  clear h H9
  go_wp2_with fail
  refine (o_reserved H10.out (a := 1) (by rfl)).mono ?_
  rintro e w11 ⟨rfl, h⟩
  have H11 : Hid (Own w0 w11 Q b 6 ⟨4, 3, 2, [(7, 1)]⟩) := h
  clear h H10
  go_wp2_with fail
  refine (o_marked H11.out (f := false) (by rfl)).mono ?_
  rintro e w12 ⟨rfl, h⟩
  have H12 : Hid (Own w0 w12 Q b 6 ⟨4, 3, 2, [(7, 1)]⟩) := h
  clear h H11
  go_wp2_with fail
  go_ret
  exact ⟨rfl, H12.out.below⟩
end
end Go.Proofs.Ytjkmeljefbpbgaa
