/-
  Layer 14: two rows of lists, one written over later.
-/
import Derived.Test.YtkffmglcllhbmaaMb
namespace Go.Proofs.Ytkffmglcllhbmaa
open Go.RowKit

open Go.Shelf
/-- two rows of lists with the same lists in them, all apart from one another -/
structure Two (t e : TypeId) (c : Int → Value) (b : Nat) (W : World) (v : Value) (us : List Value) (v2 : Value) (us2 : List Value) (f : Nat → List Int) : Prop where
  r1 : W.ownsRow b t 1 v us.length us
  r2 : W.ownsRow b t 1 v2 us2.length us2
  s12 : ∀ g, v.ownBlock = some g → v2.ownBlock ≠ some g
  e1 : ∀ (i : Nat) u, us[i]? = some u → W.ownsRow b e 1 u (f i).length ((f i).map c)
  e2 : ∀ (i : Nat) u, us2[i]? = some u → W.ownsRow b e 1 u (f i).length ((f i).map c)
  p1 : us.Pairwise (fun u u' => ∀ g, u.ownBlock = some g → u'.ownBlock ≠ some g)
  p12 : ∀ u ∈ us, ∀ u' ∈ us2, ∀ g, u.ownBlock = some g → u'.ownBlock ≠ some g
section
variable {t e : TypeId} {c : Int → Value} {b : Nat} {W W' : World} {v v2 : Value} {us us2 : List Value} {f : Nat → List Int}
theorem Two.start (t e : TypeId) (c : Int → Value) (b : Nat) (W : World) (f : Nat → List Int) : Two t e c b W nils [] nils [] f :=
  ⟨World.ownsRow_nil _ _ _ _, World.ownsRow_nil _ _ _ _, fun g hg => (by cases hg), fun i u h => (by simp at h), fun i u h => (by simp at h), List.Pairwise.nil, fun u h => (by cases h)⟩
theorem Two.far {S : Nat → Prop} (h : Two t e c b W v us v2 us2 f) (hk : Kept S W W') (hS : ∀ g cur ty, W.heap[g]? = some (.cells cur ty (0, 0)) → ty = t ∨ ty = e → ¬ S g) : Two t e c b W' v us v2 us2 f :=
  ⟨own_far h.r1 hk (fun g hg => by obtain ⟨cur, hc⟩ := own_typ h.r1 hg; exact hS g cur _ hc (.inl rfl)), own_far h.r2 hk (fun g hg => by obtain ⟨cur, hc⟩ := own_typ h.r2 hg; exact hS g cur _ hc (.inl rfl)), h.s12,
    fun i u hu => own_far (h.e1 i u hu) hk (fun g hg => by obtain ⟨cur, hc⟩ := own_typ (h.e1 i u hu) hg; exact hS g cur _ hc (.inr rfl)), fun i u hu => own_far (h.e2 i u hu) hk (fun g hg => by obtain ⟨cur, hc⟩ := own_typ (h.e2 i u hu) hg; exact hS g cur _ hc (.inr rfl)), h.p1, h.p12⟩
theorem Two.later (h : Two t e c b W v us v2 us2 f) (hb : Below W.heap.size W W') : Two t e c b W' v us v2 us2 f := h.far (Kept.of_below (fun _ => False) hb) (fun _ _ _ _ _ => id)
theorem Two.lt1 (h : Two t e c b W v us v2 us2 f) {u : Value} (hu : u ∈ us) {g : Nat} (hg : u.ownBlock = some g) : b ≤ g ∧ g < W.heap.size := by
  obtain ⟨i, hi, rfl⟩ := List.getElem_of_mem hu
  exact (h.e1 i _ (List.getElem?_eq_getElem hi)).lt g hg
theorem Two.lt2 (h : Two t e c b W v us v2 us2 f) {u : Value} (hu : u ∈ us2) {g : Nat} (hg : u.ownBlock = some g) : b ≤ g ∧ g < W.heap.size := by
  obtain ⟨i, hi, rfl⟩ := List.getElem_of_mem hu
  exact (h.e2 i _ (List.getElem?_eq_getElem hi)).lt g hg
theorem snoc_at {us : List Value} {x u : Value} {i : Nat} (h : (us ++ [x])[i]? = some u) : us[i]? = some u ∨ (i = us.length ∧ u = x) := by
  rcases Nat.lt_or_ge i us.length with a | a
  · rw [List.getElem?_append_left a] at h; exact .inl h
  · rw [List.getElem?_append_right a] at h
    have hm := (List.getElem?_eq_some_iff.1 h).1
    simp only [List.length_singleton] at hm
    have e : i = us.length := by omega
    subst e
    simp at h
    exact .inr ⟨rfl, h.symm⟩
/-- a new list, into the first row -/
theorem Two.push1 {tt : TypeId} {i0 : TypeInfo} (ht : Try.prog.underlying tt = some (.slice t)) (hi : Try.prog.info? t = some i0) (hz0 : i0.zero = some nils) (hz1 : i0.size = 1) (hz2 : i0.bytes = 24) (hne : t ≠ e)
    (h : Two t e c b W v us v2 us2 f) {W1 : World} (hb : Below W.heap.size W W1) (hB : b ≤ W.heap.size) {x : Value} (hx : W1.ownsRow W.heap.size e 1 x (f us.length).length ((f us.length).map c)) (h1 : x.oneCell' = true) (hl : us.length ≤ 5000) :
    ∃ v' W', (Builtin.append_ #[tt, tt] tt #[v, .slice (some ⟨W1.heap.size, 0, none⟩) 1 1]).run Try.prog (W1.alloc (.cells #[x] t)) = .ok v' W' ∧ Two t e c b W' v' (us ++ [x]) v2 us2 f ∧ Kept (fun g => v.ownBlock = some g) W1 W' ∧ W'.ownsRow W.heap.size e 1 x (f us.length).length ((f us.length).map c) := by
  have h2 := h.later hb
  have hs := hb.size
  obtain ⟨v', W', hr, ho, hk, hv⟩ := run_more (t := tt) ht hi hz0 hz1 hz2 h2.r1 (by omega) hl x h1
  have hS : ∀ (g : Nat) cur, W1.heap[g]? = some (.cells cur e (0, 0)) → ¬ v.ownBlock = some g := fun g cur hg e2 => own_not h2.r1 hg (Ne.symm hne) e2
  have hx' := own_far hx hk (fun g hg => by obtain ⟨cur, hc⟩ := own_typ hx hg; exact hS g cur hc)
  have hxb : W'.ownsRow b e 1 x (f us.length).length ((f us.length).map c) := B.own_mono hx' hB
  refine ⟨v', W', hr, ⟨ho, own_far h2.r2 hk (fun g hg e2 => h.s12 g e2 hg), fun g hg e2 => ?_, fun i u hu => ?_, fun i u hu => own_far (h2.e2 i u hu) hk (fun g hg => by obtain ⟨cur, hc⟩ := own_typ (h2.e2 i u hu) hg; exact hS g cur hc), ?_, fun u hu u' hu' g hg e2 => ?_⟩, hk, hx'⟩
  · rcases hv g hg with e3 | e3
    · exact h.s12 g e3 e2
    · have := (h.r2.lt g e2).2; omega
  · rcases snoc_at hu with hu | ⟨rfl, rfl⟩
    · exact own_far (h2.e1 i u hu) hk (fun g hg => by obtain ⟨cur, hc⟩ := own_typ (h2.e1 i u hu) hg; exact hS g cur hc)
    · exact hxb
  · refine List.pairwise_append.2 ⟨h.p1, List.pairwise_singleton _ _, fun u hu u' hu' g hg e2 => ?_⟩
    obtain rfl := List.mem_singleton.1 hu'
    have := (h.lt1 hu hg).2
    have := (hx.lt g e2).1
    omega
  · rcases List.mem_append.1 hu with hu | hu
    · exact h.p12 u hu u' hu' g hg e2
    · obtain rfl := List.mem_singleton.1 hu
      have := (h.lt2 hu' e2).2
      have := (hx.lt g hg).1
      omega
/-- a new list, into the other row -/
theorem Two.push2 {tt : TypeId} {i0 : TypeInfo} (ht : Try.prog.underlying tt = some (.slice t)) (hi : Try.prog.info? t = some i0) (hz0 : i0.zero = some nils) (hz1 : i0.size = 1) (hz2 : i0.bytes = 24) (hne : t ≠ e)
    (h : Two t e c b W v us v2 us2 f) {W1 : World} (hb : Below W.heap.size W W1) (hB : b ≤ W.heap.size) {x : Value} (hx : W1.ownsRow W.heap.size e 1 x (f us2.length).length ((f us2.length).map c)) (h1 : x.oneCell' = true) (hl : us2.length ≤ 5000) :
    ∃ v' W', (Builtin.append_ #[tt, tt] tt #[v2, .slice (some ⟨W1.heap.size, 0, none⟩) 1 1]).run Try.prog (W1.alloc (.cells #[x] t)) = .ok v' W' ∧ Two t e c b W' v us v' (us2 ++ [x]) f ∧ Kept (fun g => v2.ownBlock = some g) W1 W' := by
  have h2 := h.later hb
  have hs := hb.size
  obtain ⟨v', W', hr, ho, hk, hv⟩ := run_more (t := tt) ht hi hz0 hz1 hz2 h2.r2 (by omega) hl x h1
  have hS : ∀ (g : Nat) cur, W1.heap[g]? = some (.cells cur e (0, 0)) → ¬ v2.ownBlock = some g := fun g cur hg e2 => own_not h2.r2 hg (Ne.symm hne) e2
  have hx' := own_far hx hk (fun g hg => by obtain ⟨cur, hc⟩ := own_typ hx hg; exact hS g cur hc)
  have hxb : W'.ownsRow b e 1 x (f us2.length).length ((f us2.length).map c) := B.own_mono hx' hB
  refine ⟨v', W', hr, ⟨own_far h2.r1 hk (fun g hg e2 => h.s12 g hg e2), ho, fun g hg e2 => ?_, fun i u hu => own_far (h2.e1 i u hu) hk (fun g hg => by obtain ⟨cur, hc⟩ := own_typ (h2.e1 i u hu) hg; exact hS g cur hc), fun i u hu => ?_, h.p1, fun u hu u' hu' g hg e2 => ?_⟩, hk⟩
  · rcases hv g e2 with e3 | e3
    · exact h.s12 g hg e3
    · have := (h.r1.lt g hg).2; omega
  · rcases snoc_at hu with hu | ⟨rfl, rfl⟩
    · exact own_far (h2.e2 i u hu) hk (fun g hg => by obtain ⟨cur, hc⟩ := own_typ (h2.e2 i u hu) hg; exact hS g cur hc)
    · exact hxb
  · rcases List.mem_append.1 hu' with hu' | hu'
    · exact h.p12 u hu u' hu' g hg e2
    · obtain rfl := List.mem_singleton.1 hu'
      have := (h.lt1 hu hg).2
      have := (hx.lt g e2).1
      omega
end
/-- all four rows -/
def Mk (w3 W : World) (fq fh : Nat → List Int) (vq : Value) (a1 : Nat) (vw : Value) (a2 : Nat) (vh : Value) (b1 : Nat) (vx : Value) (b2 : Nat) : Prop := ∃ usq wsq ush wsh, usq.length = a1 ∧ wsq.length = a2 ∧ ush.length = b1 ∧ wsh.length = b2 ∧ Two 22 30 (Value.int .u64) w3.heap.size W vq usq vw wsq fq ∧ Two 37 3 (Value.int .i64) w3.heap.size W vh ush vx wsh fh ∧ Below w3.heap.size w3 W
section
variable {w3 W W1 : World} {fq fh : Nat → List Int} {vq vw vh vx : Value} {a1 a2 b1 b2 : Nat}
theorem Mk.start (w3 : World) (fq fh : Nat → List Int) : Mk w3 w3 fq fh nils 0 nils 0 nils 0 nils 0 := ⟨[], [], [], [], rfl, rfl, rfl, rfl, Two.start _ _ _ _ _ _, Two.start _ _ _ _ _ _, Below.refl _ _⟩
theorem Mk.later (h : Mk w3 W fq fh vq a1 vw a2 vh b1 vx b2) (hb : Below W.heap.size W W1) : Mk w3 W1 fq fh vq a1 vw a2 vh b1 vx b2 := by
  obtain ⟨usq, wsq, ush, wsh, l1, l2, l3, l4, t1, t2, hB⟩ := h
  exact ⟨usq, wsq, ush, wsh, l1, l2, l3, l4, t1.later hb, t2.later hb, below_then hB hb⟩
theorem Mk.below (h : Mk w3 W fq fh vq a1 vw a2 vh b1 vx b2) : Below w3.heap.size w3 W := by
  obtain ⟨usq, wsq, ush, wsh, l1, l2, l3, l4, t1, t2, hB⟩ := h
  exact hB
theorem Mk.shape (h : Mk w3 W fq fh vq a1 vw a2 vh b1 vx b2) : (∃ p c, vq = .slice p a1 c) ∧ (∃ p c, vw = .slice p a2 c) ∧ (∃ p c, vh = .slice p b1 c) ∧ (∃ p c, vx = .slice p b2 c) := by
  obtain ⟨usq, wsq, ush, wsh, rfl, rfl, rfl, rfl, t1, t2, hB⟩ := h
  obtain ⟨p1, c1, e1, -⟩ := own_shape t1.r1
  obtain ⟨p2, c2, e2, -⟩ := own_shape t1.r2
  obtain ⟨p3, c3, e3, -⟩ := own_shape t2.r1
  obtain ⟨p4, c4, e4, -⟩ := own_shape t2.r2
  exact ⟨⟨p1, c1, e1⟩, ⟨p2, c2, e2⟩, ⟨p3, c3, e3⟩, ⟨p4, c4, e4⟩⟩
theorem Mk.pushQ1 (h : Mk w3 W fq fh vq a1 vw a2 vh b1 vx b2) (hb : Below W.heap.size W W1) {x : Value} (hx : W1.ownsRow W.heap.size 30 1 x (fq a1).length ((fq a1).map (Value.int .u64))) (h1 : x.oneCell' = true) (hl : a1 ≤ 5000) :
    ∃ v' W', (Builtin.append_ #[35, 35] 35 #[vq, .slice (some ⟨W1.heap.size, 0, none⟩) 1 1]).run Try.prog (W1.alloc (.cells #[x] 22)) = .ok v' W' ∧ Mk w3 W' fq fh v' (a1 + 1) vw a2 vh b1 vx b2 ∧ W'.ownsRow W.heap.size 30 1 x (fq a1).length ((fq a1).map (Value.int .u64)) := by
  obtain ⟨usq, wsq, ush, wsh, rfl, rfl, rfl, rfl, t1, t2, hB⟩ := h
  obtain ⟨i0, hi, hz0, hz1, hz2⟩ := info_parts info_u64s
  have hs := hB.size
  obtain ⟨v', W', hr, ht, hk, hx'⟩ := t1.push1 (tt := 35) Try.underlying35 hi hz0 hz1 hz2 (by decide) hb hs hx h1 hl
  have ho := (t2.later hb).far hk (fun g cur ty hg hty e2 => by
    refine own_not (t1.later hb).r1 hg ?_ e2
    rcases hty with rfl | rfl <;> decide)
  exact ⟨v', W', hr, ⟨usq ++ [x], wsq, ush, wsh, by simp, rfl, rfl, rfl, ht, ho, hk.into (below_then hB hb) (fun g hg e2 => by have := (t1.r1.lt g e2).1; omega) (Nat.le_refl _)⟩, hx'⟩
theorem Mk.pushQ2 (h : Mk w3 W fq fh vq a1 vw a2 vh b1 vx b2) (hb : Below W.heap.size W W1) {x : Value} (hx : W1.ownsRow W.heap.size 30 1 x (fq a2).length ((fq a2).map (Value.int .u64))) (h1 : x.oneCell' = true) (hl : a2 ≤ 5000) :
    ∃ v' W', (Builtin.append_ #[35, 35] 35 #[vw, .slice (some ⟨W1.heap.size, 0, none⟩) 1 1]).run Try.prog (W1.alloc (.cells #[x] 22)) = .ok v' W' ∧ Mk w3 W' fq fh vq a1 v' (a2 + 1) vh b1 vx b2 := by
  obtain ⟨usq, wsq, ush, wsh, rfl, rfl, rfl, rfl, t1, t2, hB⟩ := h
  obtain ⟨i0, hi, hz0, hz1, hz2⟩ := info_parts info_u64s
  have hs := hB.size
  obtain ⟨v', W', hr, ht, hk⟩ := t1.push2 (tt := 35) Try.underlying35 hi hz0 hz1 hz2 (by decide) hb hs hx h1 hl
  have ho := (t2.later hb).far hk (fun g cur ty hg hty e2 => by
    refine own_not (t1.later hb).r2 hg ?_ e2
    rcases hty with rfl | rfl <;> decide)
  exact ⟨v', W', hr, ⟨usq, wsq ++ [x], ush, wsh, rfl, by simp, rfl, rfl, ht, ho, hk.into (below_then hB hb) (fun g hg e2 => by have := (t1.r2.lt g e2).1; omega) (Nat.le_refl _)⟩⟩
theorem Mk.pushH1 (h : Mk w3 W fq fh vq a1 vw a2 vh b1 vx b2) (hb : Below W.heap.size W W1) {x : Value} (hx : W1.ownsRow W.heap.size 3 1 x (fh b1).length ((fh b1).map (Value.int .i64))) (h1 : x.oneCell' = true) (hl : b1 ≤ 5000) :
    ∃ v' W', (Builtin.append_ #[25, 25] 25 #[vh, .slice (some ⟨W1.heap.size, 0, none⟩) 1 1]).run Try.prog (W1.alloc (.cells #[x] 37)) = .ok v' W' ∧ Mk w3 W' fq fh vq a1 vw a2 v' (b1 + 1) vx b2 ∧ W'.ownsRow W.heap.size 3 1 x (fh b1).length ((fh b1).map (Value.int .i64)) := by
  obtain ⟨usq, wsq, ush, wsh, rfl, rfl, rfl, rfl, t1, t2, hB⟩ := h
  obtain ⟨i0, hi, hz0, hz1, hz2⟩ := info_parts info_ints
  have hs := hB.size
  obtain ⟨v', W', hr, ht, hk, hx'⟩ := t2.push1 (tt := 25) Try.underlying25 hi hz0 hz1 hz2 (by decide) hb hs hx h1 hl
  have ho := (t1.later hb).far hk (fun g cur ty hg hty e2 => by
    refine own_not (t2.later hb).r1 hg ?_ e2
    rcases hty with rfl | rfl <;> decide)
  exact ⟨v', W', hr, ⟨usq, wsq, ush ++ [x], wsh, rfl, rfl, by simp, rfl, ho, ht, hk.into (below_then hB hb) (fun g hg e2 => by have := (t2.r1.lt g e2).1; omega) (Nat.le_refl _)⟩, hx'⟩
theorem Mk.pushH2 (h : Mk w3 W fq fh vq a1 vw a2 vh b1 vx b2) (hb : Below W.heap.size W W1) {x : Value} (hx : W1.ownsRow W.heap.size 3 1 x (fh b2).length ((fh b2).map (Value.int .i64))) (h1 : x.oneCell' = true) (hl : b2 ≤ 5000) :
    ∃ v' W', (Builtin.append_ #[25, 25] 25 #[vx, .slice (some ⟨W1.heap.size, 0, none⟩) 1 1]).run Try.prog (W1.alloc (.cells #[x] 37)) = .ok v' W' ∧ Mk w3 W' fq fh vq a1 vw a2 vh b1 v' (b2 + 1) := by
  obtain ⟨usq, wsq, ush, wsh, rfl, rfl, rfl, rfl, t1, t2, hB⟩ := h
  obtain ⟨i0, hi, hz0, hz1, hz2⟩ := info_parts info_ints
  have hs := hB.size
  obtain ⟨v', W', hr, ht, hk⟩ := t2.push2 (tt := 25) Try.underlying25 hi hz0 hz1 hz2 (by decide) hb hs hx h1 hl
  have ho := (t1.later hb).far hk (fun g cur ty hg hty e2 => by
    refine own_not (t2.later hb).r2 hg ?_ e2
    rcases hty with rfl | rfl <;> decide)
  exact ⟨v', W', hr, ⟨usq, wsq, ush, wsh ++ [x], rfl, rfl, rfl, by simp, ho, ht, hk.into (below_then hB hb) (fun g hg e2 => by have := (t2.r2.lt g e2).1; omega) (Nat.le_refl _)⟩⟩
end
end Go.Proofs.Ytkffmglcllhbmaa
