/-
  Layer 15, plain mathematics of edges: the document's rounds for heights.
-/
import Derived.Test.YtkgjmejpbklabaaGx
namespace Go.Proofs.Ytkgjmejpbklabaa

/-- what n rounds have come to, held against the heights H -/
structure Hro (N : Nat) (H : Nat → Nat) (n : Nat) (h : List Nat) : Prop where
  up : ∀ x, x < N → h.getD x 0 ≤ H x
  lo : ∀ x, x < N → min n (H x) ≤ h.getD x 0
/-- .. and i of the edges in round n + 1 -/
structure Hri (N : Nat) (H : Nat → Nat) (n : Nat) (l : List (Nat × Nat)) (i : Nat) (h : List Nat) : Prop extends Hro N H n h where
  done : ∀ a b, (a, b) ∈ l.take i → min n (H b) + 1 ≤ h.getD a 0
theorem Hro.start {N : Nat} {H : Nat → Nat} : Hro N H 0 (List.replicate N 0) := by
  have e : ∀ x, (List.replicate N 0).getD x 0 = 0 := fun x => by by_cases h : x < N <;> simp [List.getD, h]
  exact ⟨fun x _ => by rw [e]; omega, fun x _ => by rw [e]; omega⟩
theorem Hro.turn {N : Nat} {H : Nat → Nat} {n : Nat} {l : List (Nat × Nat)} {h : List Nat} (hr : Hro N H n h) : Hri N H n l 0 h := { hr with done := fun a b hab => by simp at hab }
theorem getDN_set (f : List Nat) (a x v : Nat) : (f.set a v).getD x 0 = if a = x ∧ a < f.length then v else f.getD x 0 := by
  by_cases h : a = x
  · subst h
    by_cases hl : a < f.length
    · simp [List.getD, hl]
    · simp [List.getD, hl]
  · simp [List.getD, List.getElem?_set_ne h, h]
theorem Hri.put {N : Nat} {H : Nat → Nat} {n : Nat} {l : List (Nat × Nat)} {i : Nat} {h : List Nat} {a b : Nat} (hr : Hri N H n l i h) (hl : h.length = N) (hi : l[i]? = some (a, b)) (ha : a < N) (hb : b < N) (he : H b + 1 ≤ H a) : Hri N H n l (i + 1) (h.set a (max (h.getD a 0) (h.getD b 0 + 1))) := by
  have hs : ∀ x, (h.set a (max (h.getD a 0) (h.getD b 0 + 1))).getD x 0 = if x = a then max (h.getD a 0) (h.getD b 0 + 1) else h.getD x 0 := fun x => by
    rw [getDN_set]
    by_cases e : a = x
    · rw [if_pos ⟨e, by omega⟩, if_pos e.symm]
    · rw [if_neg (fun hc => e hc.1), if_neg (fun hc => e hc.symm)]
  have hge : ∀ x, h.getD x 0 ≤ (h.set a (max (h.getD a 0) (h.getD b 0 + 1))).getD x 0 := fun x => by
    rw [hs]
    by_cases e : x = a
    · subst e; rw [if_pos rfl]; omega
    · rw [if_neg e]; omega
  refine ⟨⟨fun x hx => ?_, fun x hx => Nat.le_trans (hr.lo x hx) (hge x)⟩, fun a' b' hab => ?_⟩
  · rw [hs]
    by_cases e : x = a
    · subst e
      rw [if_pos rfl]
      have := hr.up x hx
      have := hr.up b hb
      omega
    · rw [if_neg e]; exact hr.up x hx
  · rw [List.take_add_one, hi] at hab
    rcases List.mem_append.1 hab with hab | hab
    · exact Nat.le_trans (hr.done a' b' hab) (hge a')
    · simp at hab
      obtain ⟨rfl, rfl⟩ := hab
      rw [hs, if_pos rfl]
      have := hr.lo b' hb
      omega
theorem Hri.next {E : Nat → Nat → Prop} {N : Nat} {H : Nat → Nat} {n : Nat} {l : List (Nat × Nat)} {h : List Nat} (hr : Hri N H n l l.length h) (hE : ∀ u v, E u v → (u, v) ∈ l) (hH : Hgt E N H) : Hro N H (n + 1) h := by
  refine ⟨hr.up, fun x hx => ?_⟩
  rcases (hH x hx).2 with h0 | ⟨y, hy, e⟩
  · omega
  · have := hr.done x y (by rw [List.take_length]; exact hE x y hy)
    omega
/-- after as many rounds as there are places -/
theorem Hro.all {N : Nat} {H : Nat → Nat} {h : List Nat} (hr : Hro N H N h) (hb : ∀ x, x < N → H x ≤ N) (x : Nat) (hx : x < N) : h.getD x 0 = H x := by
  have := hr.up x hx
  have := hr.lo x hx
  have := hb x hx
  omega

end Go.Proofs.Ytkgjmejpbklabaa
