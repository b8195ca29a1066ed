/-
  Layer 15, plain mathematics of edges: ways are shorter than there are places; the document's rounds.
-/
import Derived.Test.YtkgjmejpbklabaaGs
namespace Go.Proofs.Ytkgjmejpbklabaa

/-- the shortest way has so many edges -/
def Sht (E : Nat → Nat → Prop) (t d x : Nat) : Prop := Pt E d x t ∧ ∀ j, j < d → ¬ Pt E j x t
theorem Sht.one {E : Nat → Nat → Prop} {t d d' x : Nat} (h : Sht E t d x) (h' : Sht E t d' x) : d = d' := by
  have h1 : ¬ d' < d := fun hc => h.2 d' hc h'.1
  have h2 : ¬ d < d' := fun hc => h'.2 d hc h.1
  omega
theorem Sht.next {E : Nat → Nat → Prop} {t d x : Nat} (h : Sht E t (d + 1) x) : ∃ y, E x y ∧ Sht E t d y := by
  obtain ⟨y, hy, hw⟩ := h.1
  exact ⟨y, hy, hw, fun j hj hp => h.2 (j + 1) (by omega) ⟨y, hy, hp⟩⟩
theorem Sht.list {E : Nat → Nat → Prop} {n t : Nat} (hE : ∀ u v, E u v → u < n) (ht : t < n) : ∀ (d x : Nat), Sht E t d x → ∃ l : List Nat, l.length = d + 1 ∧ l.Nodup ∧ ∀ z ∈ l, z < n ∧ ∃ i, i ≤ d ∧ Sht E t i z
  | 0, x, h => ⟨[x], rfl, by simp, fun z hz => by
      simp at hz; subst hz
      have : z = t := h.1
      exact ⟨by omega, 0, Nat.le_refl _, h⟩⟩
  | d + 1, x, h => by
    obtain ⟨y, hy, hs⟩ := h.next
    obtain ⟨l, h1, h2, h3⟩ := Sht.list hE ht d y hs
    refine ⟨x :: l, by simp [h1], List.nodup_cons.2 ⟨fun hx => ?_, h2⟩, fun z hz => ?_⟩
    · obtain ⟨_, i, hi, hsi⟩ := h3 x hx
      have := h.one hsi
      omega
    · rcases List.mem_cons.1 hz with rfl | hz
      · exact ⟨hE _ _ hy, d + 1, Nat.le_refl _, h⟩
      · obtain ⟨h4, i, hi, hsi⟩ := h3 z hz
        exact ⟨h4, i, by omega, hsi⟩
theorem Sht.lt {E : Nat → Nat → Prop} {n t d x : Nat} (hE : ∀ u v, E u v → u < n) (ht : t < n) (h : Sht E t d x) : d < n := by
  obtain ⟨l, h1, h2, h3⟩ := Sht.list hE ht d x h
  have := nodup_lt (n := n) h2 fun z hz => (h3 z hz).1
  omega
theorem Pt.sht {E : Nat → Nat → Prop} {t k x : Nat} (h : Pt E k x t) : ∃ d, d ≤ k ∧ Sht E t d x := by
  obtain ⟨m, h1, h2, h3⟩ := least_of (p := fun j => Pt E j x t) h
  exact ⟨m, h1, h2, h3⟩

/-- how far it is, as the document notes it after n rounds: -1 where it isn't known -/
structure Fro (E : Nat → Nat → Prop) (t n : Nat) (f : List Int) : Prop where
  sound : ∀ x, 0 ≤ f.getD x (-1) → Pt E (f.getD x (-1)).toNat x t ∧ f.getD x (-1) ≤ n
  whole : ∀ x j, j ≤ n → Pt E j x t → 0 ≤ f.getD x (-1) ∧ f.getD x (-1) ≤ j
/-- .. and i of the edges in round n + 1 -/
structure Fri (E : Nat → Nat → Prop) (t n : Nat) (l : List (Nat × Nat)) (i : Nat) (f : List Int) : Prop where
  sound : ∀ x, 0 ≤ f.getD x (-1) → Pt E (f.getD x (-1)).toNat x t ∧ f.getD x (-1) ≤ n + 1
  whole : ∀ x j, j ≤ n → Pt E j x t → 0 ≤ f.getD x (-1) ∧ f.getD x (-1) ≤ j
  done : ∀ a b, (a, b) ∈ l.take i → f.getD b (-1) = n → 0 ≤ f.getD a (-1)
theorem Fro.start {E : Nat → Nat → Prop} {t N : Nat} {f : List Int} (ht : t < N) (h : ∀ x, f.getD x (-1) = if x = t ∧ x < N then 0 else -1) : Fro E t 0 f where
  sound := fun x hx => by
    rw [h] at hx ⊢
    by_cases e : x = t ∧ x < N
    · rw [if_pos e]; exact ⟨e.1, by omega⟩
    · rw [if_neg e] at hx; omega
  whole := fun x j hj hp => by
    obtain rfl : j = 0 := by omega
    have e : x = t := hp
    rw [h, if_pos ⟨e, by omega⟩]; omega
theorem Fro.turn {E : Nat → Nat → Prop} {t n : Nat} {l : List (Nat × Nat)} {f : List Int} (h : Fro E t n f) : Fri E t n l 0 f where
  sound := fun x hx => ⟨(h.sound x hx).1, by have := (h.sound x hx).2; omega⟩
  whole := h.whole
  done := fun a b hab => by simp at hab
theorem getDI_set (f : List Int) (a x : Nat) (v : Int) : (f.set a v).getD x (-1) = if a = x ∧ a < f.length then v else f.getD x (-1) := by
  by_cases h : a = x
  · subst h
    by_cases hl : a < f.length
    · simp [List.getD, hl]
    · simp [List.getD, hl]
  · simp [List.getD, List.getElem?_set_ne h, h]
theorem Fri.skip {E : Nat → Nat → Prop} {t n : Nat} {l : List (Nat × Nat)} {i : Nat} {f : List Int} {a b : Nat} (h : Fri E t n l i f) (hi : l[i]? = some (a, b)) (hn : f.getD b (-1) = n → 0 ≤ f.getD a (-1)) : Fri E t n l (i + 1) f := { h with
  done := fun a' b' hab => by
    rw [List.take_add_one, hi] at hab
    rcases List.mem_append.1 hab with hab | hab
    · exact h.done a' b' hab
    · simp at hab
      obtain ⟨rfl, rfl⟩ := hab
      exact hn }
theorem Fri.note {E : Nat → Nat → Prop} {t n : Nat} {l : List (Nat × Nat)} {i : Nat} {f : List Int} {a b : Nat} (h : Fri E t n l i f) (hi : l[i]? = some (a, b)) (he : E a b) (hb : f.getD b (-1) = n) (ha : f.getD a (-1) < 0) (hl : a < f.length) : Fri E t n l (i + 1) (f.set a (n + 1 : Nat)) := by
  have hs : ∀ x, (f.set a ((n + 1 : Nat) : Int)).getD x (-1) = if x = a then ((n + 1 : Nat) : Int) else f.getD x (-1) := fun x => by
    rw [getDI_set]
    by_cases e : a = x
    · rw [if_pos ⟨e, hl⟩, if_pos e.symm]
    · rw [if_neg (fun hc => e hc.1), if_neg (fun hc => e hc.symm)]
  refine ⟨fun x hx => ?_, fun x j hj hp => ?_, fun a' b' hab hbn => ?_⟩
  · rw [hs] at hx ⊢
    by_cases e : x = a
    · subst e
      rw [if_pos rfl]
      have h1 := (h.sound b (by omega)).1
      rw [hb] at h1
      refine ⟨?_, by omega⟩
      rw [show ((n + 1 : Nat) : Int).toNat = n + 1 by omega]
      exact ⟨b, he, by simpa using h1⟩
    · rw [if_neg e] at hx ⊢; exact h.sound x hx
  · rw [hs]
    have := h.whole x j hj hp
    by_cases e : x = a
    · subst e; omega
    · rw [if_neg e]; exact this
  · rw [hs] at hbn ⊢
    by_cases e : a' = a
    · rw [if_pos e]; omega
    · rw [if_neg e]
      by_cases e2 : b' = a
      · rw [if_pos e2] at hbn; omega
      · rw [if_neg e2] at hbn
        rw [List.take_add_one, hi] at hab
        rcases List.mem_append.1 hab with hab | hab
        · exact h.done a' b' hab hbn
        · simp at hab; exact absurd hab.1 e
theorem Fri.next {E : Nat → Nat → Prop} {t n : Nat} {l : List (Nat × Nat)} {f : List Int} (h : Fri E t n l l.length f) (hE : ∀ u v, E u v → (u, v) ∈ l) : Fro E t (n + 1) f where
  sound := fun x hx => by have := h.sound x hx; exact ⟨this.1, by omega⟩
  whole := fun x j hj hp => by
    by_cases hjn : j ≤ n
    · exact h.whole x j hjn hp
    · obtain rfl : j = n + 1 := by omega
      obtain ⟨y, hy, hw⟩ := hp
      have h1 := h.whole y n (Nat.le_refl _) hw
      by_cases hyn : f.getD y (-1) = n
      · have h2 := h.done x y (by rw [List.take_length]; exact hE x y hy) hyn
        exact ⟨h2, by have := (h.sound x h2).2; omega⟩
      · have h2 := (h.sound y h1.1).1
        have h3 := h.whole x ((f.getD y (-1)).toNat + 1) (by omega) ⟨y, hy, h2⟩
        exact ⟨h3.1, by omega⟩
/-- after as many rounds as there are places -/
theorem Fro.all {E : Nat → Nat → Prop} {t N : Nat} {f : List Int} (h : Fro E t N f) (hE : ∀ u v, E u v → u < N) (ht : t < N) (x : Nat) : (∀ k, Pt E k x t → 0 ≤ f.getD x (-1) ∧ f.getD x (-1) ≤ k) ∧ (0 ≤ f.getD x (-1) → Pt E (f.getD x (-1)).toNat x t) := by
  refine ⟨fun k hk => ?_, fun hx => (h.sound x hx).1⟩
  obtain ⟨d, hd, hs⟩ := hk.sht
  have h1 := hs.lt hE ht
  have h2 := h.whole x d (by omega) hs.1
  exact ⟨h2.1, by omega⟩

end Go.Proofs.Ytkgjmejpbklabaa
