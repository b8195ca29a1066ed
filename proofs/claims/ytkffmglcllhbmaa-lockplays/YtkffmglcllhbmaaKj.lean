/-
  Layer 14: locks of ones own; awake.
-/
import Derived.Test.YtkffmglcllhbmaaKi
namespace Go.Proofs.Ytkffmglcllhbmaa
open Go.RowKit


/-- what no call at locks turns -/
structure Ks (w w' : World) : Prop where
  os : w'.os = w.os
  tape : w'.tape = w.tape
  output : w'.output = w.output
  size : w.heap.size ≤ w'.heap.size
  block : ∀ b, b < w.heap.size → ¬ kinds (kd w b) → w'.heap[b]? = w.heap[b]?
theorem Ks.of_below {w w' : World} (h : Below w.heap.size w w') : Ks w w' := ⟨h.os, h.tape, h.output, h.size, fun b hb _ => h.block b hb⟩
theorem Ks.refl (w : World) : Ks w w := Ks.of_below (Below.refl _ _)
theorem Ks.trans {a b c : World} (h : Ks a b) (k : Ks b c) : Ks a c := ⟨k.os.trans h.os, k.tape.trans h.tape, k.output.trans h.output, Nat.le_trans h.size k.size, fun x hx hn => by
  have e := h.block x hx hn
  exact (k.block x (Nat.lt_of_lt_of_le hx h.size) (by rw [kd_eq e]; exact hn)).trans e⟩
theorem PL.ks {w w' : World} {F : Ft} {n : Nat} {a : Lk} (h : PL w F n a) (hk : Kept (F.has a.bl) w w') : Ks w w' := ⟨hk.os, hk.tape, hk.output, hk.size, fun b hb hn => hk.block b hb fun e => hn (h.kinds e)⟩
theorem no3 : ¬ kinds 3 := by intro h; rcases h with e | e | e | e | e <;> cases e
theorem Ks.frm {w w' : World} {v : Value} {f : List Int} (h : Ks w w') (hf : Frm w v f) : Frm w' v f := hf.kept fun g _ hg h3 => h.block g hg (by rw [h3]; exact no3)
/-- locks of one's own, in memory above w0's; no set of theirs lies in X -/
def Own (w0 w : World) (Q n : Nat) (a : Lk) (X : Nat → Prop) : Prop := ∃ F : Ft, F.Q = Q ∧ PL w F n a ∧ (∀ b, F.has a.bl b → w0.heap.size ≤ b) ∧ (∀ g, F.G g → w0.heap.size ≤ g ∧ g < w.heap.size ∧ ¬ X g) ∧ (∀ b, X b → b < w.heap.size) ∧ Below w0.heap.size w0 w
section
variable {w0 w w' : World} {Q n : Nat} {a : Lk} {X : Nat → Prop}
theorem Own.below (h : Own w0 w Q n a X) : Below w0.heap.size w0 w := by obtain ⟨_, _, _, _, _, _, h⟩ := h; exact h
theorem Own.ok (h : Own w0 w Q n a X) : Ok a := by obtain ⟨_, _, h, _⟩ := h; exact h.ok
theorem Own.xlt (h : Own w0 w Q n a X) {b : Nat} (hb : X b) : b < w.heap.size := by obtain ⟨_, _, _, _, _, h, _⟩ := h; exact h b hb
theorem Own.later (h : Own w0 w Q n a X) (hb : Below w.heap.size w w') : Own w0 w' Q n a X := by
  obtain ⟨F, h1, h2, h3, h4, h5, h6⟩ := h
  have hs := hb.size
  exact ⟨F, h1, h2.later hb, h3, fun g hg => ⟨(h4 g hg).1, by have := (h4 g hg).2.1; omega, (h4 g hg).2.2⟩, fun b hb' => by have := h5 b hb'; omega, below_then h6 hb⟩
theorem Own.mono {k : Nat} (h : Own w0 w Q n a X) (hk : n ≤ k) : Own w0 w Q k a X := by
  obtain ⟨F, h1, h2, r⟩ := h
  exact ⟨F, h1, h2.mono hk, r⟩
/-- what was just laid is no set of theirs -/
theorem Own.add {Y : Nat → Prop} (h : Own w0 w Q n a X) (hb : Below w.heap.size w w') (hY : ∀ b, Y b → w.heap.size ≤ b ∧ b < w'.heap.size) : Own w0 w' Q n a (fun b => X b ∨ Y b) := by
  obtain ⟨F, h1, h2, h3, h4, h5, h6⟩ := h
  have hs := hb.size
  refine ⟨F, h1, h2.later hb, h3, fun g hg => ⟨(h4 g hg).1, by have := (h4 g hg).2.1; omega, fun e => ?_⟩, fun b hb' => ?_, below_then h6 hb⟩
  · rcases e with e | e
    · exact (h4 g hg).2.2 e
    · have := (hY g e).1; have := (h4 g hg).2.1; omega
  · rcases hb' with e | e
    · have := h5 b e; omega
    · exact (hY b e).2
theorem Own.less {Y : Nat → Prop} (h : Own w0 w Q n a X) (hY : ∀ b, Y b → X b) : Own w0 w Q n a Y := by
  obtain ⟨F, h1, h2, h3, h4, h5, h6⟩ := h
  exact ⟨F, h1, h2, h3, fun g hg => ⟨(h4 g hg).1, (h4 g hg).2.1, fun e => (h4 g hg).2.2 (hY g e)⟩, fun b hb => h5 b (hY b hb), h6⟩
/-- memory that is not locks' is written -/
theorem Own.beside {S : Nat → Prop} (h : Own w0 w Q n a X) (hk : Kept S w w') (hS : ∀ b, b < w.heap.size → S b → w0.heap.size ≤ b ∧ ¬ kinds (kd w b) ∧ (kd w b = 3 → X b)) : Own w0 w' Q n a X := by
  obtain ⟨F, h1, h2, h3, h4, h5, h6⟩ := h
  have hs := hk.size
  refine ⟨F, h1, h2.far hk (fun b hb e => (hS b (h2.lt hb) e).2.1 (h2.kinds hb)) (fun g hg h3' e => (h4 g hg).2.2 ((hS g (h4 g hg).2.1 e).2.2 h3')), h3, fun g hg => ⟨(h4 g hg).1, by have := (h4 g hg).2.1; omega, (h4 g hg).2.2⟩, fun b hb => by have := h5 b hb; omega, ?_⟩
  exact hk.into (w0 := w0) h6 (fun b hb e => by have := (hS b (by have := h6.size; omega) e).1; omega) (Nat.le_refl _)
/-- as a call that writes leaves it -/
theorem Own.turned {n' : Nat} {a' : Lk} {F F' : Ft} (h2 : PL w F n a) (h3 : ∀ b, F.has a.bl b → w0.heap.size ≤ b) (h4 : ∀ g, F.G g → w0.heap.size ≤ g ∧ g < w.heap.size ∧ ¬ X g) (h5 : ∀ b, X b → b < w.heap.size) (h6 : Below w0.heap.size w0 w) (hp : PL w' F' n' a') (hk : Kept (F.has a.bl) w w') (hg : Grw w w' a.bl F F') (hbl : a'.bl = a.bl) : Own w0 w' F.Q n' a' X ∧ Ks w w' := by
  have hs := h6.size
  have hs2 := hk.size
  refine ⟨⟨F', hg.q, hp, fun b hb => ?_, fun b hb => ?_, fun b hb => by have := h5 b hb; omega, hk.into h6 (fun b hb e => by have := h3 b e; omega) (Nat.le_refl _)⟩, h2.ks hk⟩
  · rw [hbl] at hb
    rcases hg.has b hb with e | e
    · exact h3 b e
    · omega
  · rcases hg.g b hb with e | e
    · have := h4 b e; exact ⟨this.1, by omega, this.2.2⟩
    · exact ⟨by omega, e.2, fun e2 => by have := h5 b e2; omega⟩
end
theorem layS_bl (a : Lk) (t : Int) (s : List Int) : (layS a t s).bl = a.bl := by unfold layS; split <;> rfl
section
variable {w0 w : World} {Q n : Nat} {a a' : Lk} {X : Nat → Prop}
theorem o_new (w0 : World) {N : Nat} (hb : Below w0.heap.size w0 w) (h1 : 1 ≤ N) (h2 : N ≤ 64) : Calls Try.prog 27 #[.int .i64 N] w fun e w' => ∃ Q, e = .returned (.tuple #[qp Q, .int .i64 0]) ∧ Own w0 w' Q 0 ⟨N, 0, []⟩ (fun _ => False) ∧ Below w.heap.size w w' := by
  refine (new_ok N w h1 h2).mono ?_
  rintro e w' ⟨F, rfl, h3, h4, h5, h6⟩
  have hs := hb.size
  exact ⟨F.Q, rfl, ⟨F, rfl, h3, fun b hb' => Nat.le_trans hs (h4 b hb'), fun g hg => absurd hg (h5 g), fun b hb' => hb'.elim, hb.trans (h6.mono hs)⟩, h6⟩
theorem o_lay (h : Own w0 w Q n a X) (hn : n < 10000) {t : Int} (ht : U64 t) {p : Option Addr} {k c : Nat} {s : List Int} (hI : B.IIn w p k s) (hkc : k ≤ c) (hp0 : p = none → c = 0) (hk : k ≤ 140737488355328) (h3 : ∀ ad, p = some ad → kd w ad.block = 3) {E : Int} (hE : layE a t s = E) (ha : layS a t s = a') :
    Calls Try.prog 22 #[qp Q, .int .u64 t, .slice p k c] w fun e w' => e = .returned (.int .i64 E) ∧ Own w0 w' Q (n + 1) a' X ∧ Ks w w' := by
  obtain ⟨F, rfl, h2, h4, h5, h6, h7⟩ := h
  refine (lay_at h2 hn t ht hI hkc hp0 hk h3).mono ?_
  rintro e w' ⟨rfl, F', hp, hkk, hg⟩
  exact ⟨by rw [hE], by rw [← ha]; exact Own.turned h2 h4 h5 h6 h7 hp hkk hg (layS_bl _ _ _)⟩
theorem o_take (h : Own w0 w Q n a X) (hn : n < 10000) {t : Int} (ht : U64 t) {x E : Int} (hx : takN a.L t = x) (hE : takE a.L t = E) (ha : takS a t = a') :
    Calls Try.prog 12 #[qp Q, .int .u64 t] w fun e w' => e = .returned (.tuple #[.int .i64 x, .int .i64 E]) ∧ Own w0 w' Q (n + 1) a' X ∧ Ks w w' := by
  obtain ⟨F, rfl, h2, h4, h5, h6, h7⟩ := h
  refine (take_at h2 hn ht).mono ?_
  rintro e w' ⟨rfl, F', hp, hkk, hg⟩
  exact ⟨by rw [hE, hx], by rw [← ha]; exact Own.turned h2 h4 h5 h6 h7 hp hkk hg rfl⟩
theorem o_drop (h : Own w0 w Q n a X) (hn : n ≤ 10000) {t : Int} (ht : U64 t) {x E : Int} (hx : drpN a.L t = x) (hE : drpE a.L t = E) (ha : drpS a t = a') :
    Calls Try.prog 20 #[qp Q, .int .u64 t] w fun e w' => e = .returned (.tuple #[.int .i64 x, .int .i64 E]) ∧ Own w0 w' Q n a' X ∧ Ks w w' := by
  obtain ⟨F, rfl, h2, h4, h5, h6, h7⟩ := h
  refine (dropL_at h2 hn ht).mono ?_
  rintro e w' ⟨rfl, F', hp, hkk, hg⟩
  exact ⟨by rw [hE, hx], by rw [← ha]; exact Own.turned h2 h4 h5 h6 h7 hp hkk hg rfl⟩
theorem o_ready (h : Own w0 w Q n a X) (hn : n ≤ 10000) {t : Int} (ht : U64 t) {y : Bool} (hy : rdyS a.L t = y) : Calls Try.prog 11 #[qp Q, .int .u64 t] w fun e w' => e = .returned (.bool y) ∧ Own w0 w' Q n a X ∧ Below w.heap.size w w' := by
  obtain ⟨F, rfl, h2, r⟩ := h
  refine (ready_at h2 hn ht).mono ?_
  rintro e w' ⟨rfl, hb⟩
  exact ⟨by rw [hy], Own.later ⟨F, rfl, h2, r⟩ hb, hb⟩
theorem o_queue (h : Own w0 w Q n a X) (hn : n ≤ 10000) (b : Int) {l : List Int} (hl : qS a.L b = l) : Calls Try.prog 14 #[qp Q, .int .i64 b] w fun e w' => ∃ v, e = .returned v ∧ MadeU w w' v l ∧ Own w0 w' Q n a X := by
  obtain ⟨F, rfl, h2, r⟩ := h
  refine (queue_at h2 hn b).mono ?_
  rintro e w' ⟨v, rfl, hm⟩
  rw [hl] at hm
  exact ⟨v, rfl, hm, Own.later ⟨F, rfl, h2, r⟩ hm.below⟩
theorem o_held (h : Own w0 w Q n a X) {t : Int} (ht : U64 t) : Calls Try.prog 15 #[qp Q, .int .u64 t] w fun e w' => ∃ q c, e = .returned (.slice q (ent a.L t).d c) ∧ B.Made w w' q (ent a.L t).d c (ent a.L t).held ∧ Own w0 w' Q n a X := by
  obtain ⟨F, rfl, h2, r⟩ := h
  refine (held_at h2 ht).mono ?_
  rintro e w' ⟨q, c, rfl, hm⟩
  exact ⟨q, c, rfl, hm, Own.later ⟨F, rfl, h2, r⟩ hm.below⟩
theorem o_holder (h : Own w0 w Q n a X) (hn : n ≤ 10000) (b : Int) : Calls Try.prog 24 #[qp Q, .int .i64 b] w fun e w' => e = .returned (.tuple #[.int .u64 (hldN a.L b), .bool (hldB a.L b)]) ∧ Own w0 w' Q n a X ∧ Below w.heap.size w w' := by
  obtain ⟨F, rfl, h2, r⟩ := h
  refine (holder_at h2 hn b).mono ?_
  rintro e w' ⟨rfl, hb⟩
  exact ⟨rfl, Own.later ⟨F, rfl, h2, r⟩ hb, hb⟩
end
set_option maxHeartbeats 2000000 in
set_option maxRecDepth 100000 in
theorem num_is (x : Int) (w : World) : Calls Try.prog 13 #[.int .i64 x] w fun e w' => e = .returned (.int .i64 x) ∧ w = w' := by
  go_enter Try.func13, Try.ntmps13
  go_wp2
  go_ret
  exact ⟨rfl, rfl⟩
theorem lit3 (w : World) (cs : Array Value) : ∀ ad, some (⟨w.heap.size, 0, none⟩ : Addr) = some ad → kd (w.alloc (.cells cs 3)) ad.block = 3 := fun ad e => by cases e; exact kd_cells (heap_alloc_new w _)
theorem litU_in (w : World) (xs : List Int) (n : Nat) (hl : xs.length = n) : UIn (w.alloc (.cells (V64 xs).toArray 30)) (some ⟨w.heap.size, 0, none⟩) n xs := by
  refine ⟨hl, fun h0 => ⟨_, 0, rfl, fun i hi => ?_⟩⟩
  rw [Nat.zero_add, cell_of_row _ w.heap.size i (V64 xs).toArray 30 (0, 0) (heap_alloc_new w _)]
  simp [V64, List.getD, List.getElem?_eq_getElem (show i < xs.length by omega)]
abbrev aM : Lk := ⟨4, 3, [⟨1, [0, 2], 0⟩, ⟨2, [2, 3], 0⟩, ⟨3, [0], 0⟩]⟩
set_option maxHeartbeats 2000000 in
set_option maxRecDepth 100000 in
theorem made_any (w : World) : Calls Try.prog 33 #[] w fun e w' => ∃ Q, e = .returned (qp Q) ∧ Own w w' Q 3 aM (fun _ => False) := by
  go_enter Try.func33, Try.ntmps33
  go_wp2_with (go_at_call 13; refine (num_is _ _).mono ?_; rintro e w' ⟨rfl, rfl⟩)
  refine (o_new w (N := 4) (Below.refl _ w) (by decide) (by decide)).mono ?_
  rintro e w1 ⟨Q, rfl, h1, -⟩
  have H1 : Hid (Own w w1 Q 0 ⟨4, 0, []⟩ (fun _ => False)) := h1
  clear h1
  go_wp2_with (go_at_call 13; refine (num_is _ _).mono ?_; rintro e w' ⟨rfl, rfl⟩)
  refine (o_lay (H1.out.later (below_alloc _ _)) (by decide) (u64_small (by decide) (by decide)) (B.lit_in _ [0, 2] 2 rfl) (by decide) (fun e => by cases e) (by decide) (lit3 _ _) (E := 0) (by decide) (a' := ⟨4, 1, [⟨1, [0, 2], 0⟩]⟩) rfl).mono ?_
  rintro e w2 ⟨rfl, h1, -⟩
  have H2 : Hid (Own w w2 Q 1 ⟨4, 1, [⟨1, [0, 2], 0⟩]⟩ (fun _ => False)) := h1
  clear h1 H1
  go_wp2_with (go_at_call 13; refine (num_is _ _).mono ?_; rintro e w' ⟨rfl, rfl⟩)
  refine (o_lay (H2.out.later (below_alloc _ _)) (by decide) (u64_small (by decide) (by decide)) (B.lit_in _ [2, 3] 2 rfl) (by decide) (fun e => by cases e) (by decide) (lit3 _ _) (E := 0) (by decide) (a' := ⟨4, 2, [⟨1, [0, 2], 0⟩, ⟨2, [2, 3], 0⟩]⟩) rfl).mono ?_
  rintro e w3 ⟨rfl, h1, -⟩
  have H3 : Hid (Own w w3 Q 2 ⟨4, 2, [⟨1, [0, 2], 0⟩, ⟨2, [2, 3], 0⟩]⟩ (fun _ => False)) := h1
  clear h1 H2
  go_wp2_with (go_at_call 13; refine (num_is _ _).mono ?_; rintro e w' ⟨rfl, rfl⟩)
  refine (o_lay (H3.out.later (below_alloc _ _)) (by decide) (u64_small (by decide) (by decide)) (B.lit_in _ [0] 1 rfl) (by decide) (fun e => by cases e) (by decide) (lit3 _ _) (E := 0) (by decide) (a' := aM) rfl).mono ?_
  rintro e w4 ⟨rfl, h1, -⟩
  have H4 : Hid (Own w w4 Q 3 aM (fun _ => False)) := h1
  clear h1 H3
  go_wp2_with (go_at_call 13; refine (num_is _ _).mono ?_; rintro e w' ⟨rfl, rfl⟩)
  go_ret
  exact ⟨Q, rfl, H4.out⟩
set_option maxHeartbeats 2000000 in
set_option maxRecDepth 100000 in
theorem awake_any (w : World) : Calls Try.prog 10 #[] w fun e w' => e = .returned (.bool true) ∧ Below w.heap.size w w' := by
  go_enter Try.func10, Try.ntmps10
  go_wp2_with (go_at_call 13; refine (num_is _ _).mono ?_; rintro e w' ⟨rfl, rfl⟩)
  refine (made_any w).mono ?_
  rintro e w1 ⟨Q, rfl, h1⟩
  have H1 : Hid (Own w w1 Q 3 aM (fun _ => False)) := h1
  clear h1
  go_wp2_with (go_at_call 13; refine (num_is _ _).mono ?_; rintro e w' ⟨rfl, rfl⟩)
  refine (o_ready H1.out (by decide) (u64_small (by decide) (by decide)) (t := 1) (y := true) (by decide)).mono ?_
  rintro e w2 ⟨rfl, h1, -⟩
  have H2 : Hid (Own w w2 Q 3 aM (fun _ => False)) := h1
  clear h1 H1
  go_wp2_with (go_at_call 13; refine (num_is _ _).mono ?_; rintro e w' ⟨rfl, rfl⟩)
  refine (o_ready H2.out (by decide) (u64_small (by decide) (by decide)) (t := 2) (y := false) (by decide)).mono ?_
  rintro e w3 ⟨rfl, h1, -⟩
  have H3 : Hid (Own w w3 Q 3 aM (fun _ => False)) := h1
  clear h1 H2
  go_wp2_with (go_at_call 13; refine (num_is _ _).mono ?_; rintro e w' ⟨rfl, rfl⟩)
  refine (o_queue H3.out (by decide) 2 (l := [1, 2]) (by decide)).mono ?_
  rintro e w4 ⟨v, rfl, hm, h1⟩
  obtain ⟨p, c, rfl, hU, -, -⟩ := hm.read
  have H4 : Hid (Own w w4 Q 3 aM (fun _ => False)) := h1
  have HU : Hid (UIn w4 p 2 [1, 2]) := hU
  clear h1 H3 hm hU
  go_wp2_with (go_at_call 13; refine (num_is _ _).mono ?_; rintro e w' ⟨rfl, rfl⟩)
  refine (sameT_is _ _ _ _ _ _ _ _ _ (HU.out.later (below_alloc _ _)) (litU_in _ [1, 2] 2 rfl) (by decide)).mono ?_
  rintro e w5 ⟨rfl, m, hm⟩
  have H5 : Hid (Own w w5 Q 3 aM (fun _ => False)) := by rw [hm]; exact (H4.out.later (below_alloc _ _)).later (below_drawn m)
  clear HU H4 hm
  go_wp2_with (go_at_call 13; refine (num_is _ _).mono ?_; rintro e w' ⟨rfl, rfl⟩)
  refine (o_take H5.out (by decide) (u64_small (by decide) (by decide)) (t := 1) (x := 0) (E := 0) (by decide) (by decide) (a' := ⟨4, 3, [⟨1, [0, 2], 1⟩, ⟨2, [2, 3], 0⟩, ⟨3, [0], 0⟩]⟩) rfl).mono ?_
  rintro e w6 ⟨rfl, h1, -⟩
  have H6 : Hid (Own w w6 Q 4 ⟨4, 3, [⟨1, [0, 2], 1⟩, ⟨2, [2, 3], 0⟩, ⟨3, [0], 0⟩]⟩ (fun _ => False)) := h1
  clear h1 H5
  go_wp2_with (go_at_call 13; refine (num_is _ _).mono ?_; rintro e w' ⟨rfl, rfl⟩)
  refine (o_take H6.out (by decide) (u64_small (by decide) (by decide)) (t := 1) (x := 2) (E := 0) (by decide) (by decide) (a' := ⟨4, 3, [⟨1, [0, 2], 2⟩, ⟨2, [2, 3], 0⟩, ⟨3, [0], 0⟩]⟩) rfl).mono ?_
  rintro e w7 ⟨rfl, h1, -⟩
  have H7 : Hid (Own w w7 Q 5 ⟨4, 3, [⟨1, [0, 2], 2⟩, ⟨2, [2, 3], 0⟩, ⟨3, [0], 0⟩]⟩ (fun _ => False)) := h1
  clear h1 H6
  go_wp2_with (go_at_call 13; refine (num_is _ _).mono ?_; rintro e w' ⟨rfl, rfl⟩)
  refine (o_take H7.out (by decide) (u64_small (by decide) (by decide)) (t := 1) (x := 0) (E := 180) (by decide) (by decide) (a' := ⟨4, 3, [⟨1, [0, 2], 2⟩, ⟨2, [2, 3], 0⟩, ⟨3, [0], 0⟩]⟩) rfl).mono ?_
  rintro e w8 ⟨rfl, h1, -⟩
  have H8 : Hid (Own w w8 Q 6 ⟨4, 3, [⟨1, [0, 2], 2⟩, ⟨2, [2, 3], 0⟩, ⟨3, [0], 0⟩]⟩ (fun _ => False)) := h1
  clear h1 H7
  go_wp2_with (go_at_call 13; refine (num_is _ _).mono ?_; rintro e w' ⟨rfl, rfl⟩)
  refine (o_take H8.out (by decide) (u64_small (by decide) (by decide)) (t := 2) (x := 0) (E := 130) (by decide) (by decide) (a' := ⟨4, 3, [⟨1, [0, 2], 2⟩, ⟨2, [2, 3], 0⟩, ⟨3, [0], 0⟩]⟩) rfl).mono ?_
  rintro e w9 ⟨rfl, h1, -⟩
  have H9 : Hid (Own w w9 Q 7 ⟨4, 3, [⟨1, [0, 2], 2⟩, ⟨2, [2, 3], 0⟩, ⟨3, [0], 0⟩]⟩ (fun _ => False)) := h1
  clear h1 H8
  go_wp2_with (go_at_call 13; refine (num_is _ _).mono ?_; rintro e w' ⟨rfl, rfl⟩)
  refine (o_drop H9.out (by decide) (u64_small (by decide) (by decide)) (t := 1) (x := 2) (E := 0) (by decide) (by decide) (a' := ⟨4, 3, [⟨2, [2, 3], 0⟩, ⟨3, [0], 0⟩]⟩) rfl).mono ?_
  rintro e w10 ⟨rfl, h1, -⟩
  have H10 : Hid (Own w w10 Q 7 ⟨4, 3, [⟨2, [2, 3], 0⟩, ⟨3, [0], 0⟩]⟩ (fun _ => False)) := h1
  clear h1 H9
  go_wp2_with (go_at_call 13; refine (num_is _ _).mono ?_; rintro e w' ⟨rfl, rfl⟩)
  refine (o_ready H10.out (by decide) (u64_small (by decide) (by decide)) (t := 2) (y := true) (by decide)).mono ?_
  rintro e w11 ⟨rfl, h1, -⟩
  have H11 : Hid (Own w w11 Q 7 ⟨4, 3, [⟨2, [2, 3], 0⟩, ⟨3, [0], 0⟩]⟩ (fun _ => False)) := h1
  clear h1 H10
  go_wp2_with (go_at_call 13; refine (num_is _ _).mono ?_; rintro e w' ⟨rfl, rfl⟩)
  refine (o_ready H11.out (by decide) (u64_small (by decide) (by decide)) (t := 3) (y := true) (by decide)).mono ?_
  rintro e w12 ⟨rfl, h1, -⟩
  have H12 : Hid (Own w w12 Q 7 ⟨4, 3, [⟨2, [2, 3], 0⟩, ⟨3, [0], 0⟩]⟩ (fun _ => False)) := h1
  clear h1 H11
  go_wp2_with (go_at_call 13; refine (num_is _ _).mono ?_; rintro e w' ⟨rfl, rfl⟩)
  go_ret
  exact ⟨rfl, H12.out.below⟩
end Go.Proofs.Ytkffmglcllhbmaa
