/-
  Layer 15, plain mathematics of edges: ways, and the order in which a walk that goes as deep as it can is done with the places.
-/
namespace Go.Proofs.Ytkgjmejpbklabaa

/-- a way of k edges -/
def Pt (E : Nat → Nat → Prop) : Nat → Nat → Nat → Prop
  | 0, u, v => u = v
  | k + 1, u, v => ∃ x, E u x ∧ Pt E k x v
/-- a way -/
def Rch (E : Nat → Nat → Prop) (u v : Nat) : Prop := ∃ k, Pt E k u v
/-- it stands on a ring -/
def OnR (E : Nat → Nat → Prop) (x : Nat) : Prop := ∃ k, Pt E (k + 1) x x

theorem Pt.join {E : Nat → Nat → Prop} : ∀ {j k u x v}, Pt E j u x → Pt E k x v → Pt E (j + k) u v
  | 0, k, u, x, v, h, h2 => by have e : u = x := h; subst e; rw [Nat.zero_add]; exact h2
  | j + 1, k, u, x, v, ⟨y, hy, h⟩, h2 => by rw [show j + 1 + k = (j + k) + 1 by omega]; exact ⟨y, hy, Pt.join h h2⟩
theorem Pt.one {E : Nat → Nat → Prop} {u v : Nat} (h : E u v) : Pt E 1 u v := ⟨v, h, rfl⟩
theorem Rch.refl {E : Nat → Nat → Prop} (u : Nat) : Rch E u u := ⟨0, rfl⟩
theorem Rch.trans {E : Nat → Nat → Prop} {u x v : Nat} (h : Rch E u x) (h2 : Rch E x v) : Rch E u v := by
  obtain ⟨j, h⟩ := h; obtain ⟨k, h2⟩ := h2; exact ⟨j + k, h.join h2⟩
theorem Rch.one {E : Nat → Nat → Prop} {u v : Nat} (h : E u v) : Rch E u v := ⟨1, Pt.one h⟩
/-- an edge, and a way back -/
theorem OnR.of {E : Nat → Nat → Prop} {x y : Nat} (h : E x y) (h2 : Rch E y x) : OnR E x := by
  obtain ⟨k, h2⟩ := h2; exact ⟨k, y, h, h2⟩
theorem OnR.out {E : Nat → Nat → Prop} {x : Nat} (h : OnR E x) : ∃ y, E x y ∧ Rch E y x := by
  obtain ⟨k, y, hy, h⟩ := h; exact ⟨y, hy, k, h⟩
/-- a way can be parted at each of its places -/
theorem Pt.part {E : Nat → Nat → Prop} : ∀ {j k u v}, Pt E (j + k) u v → ∃ x, Pt E j u x ∧ Pt E k x v
  | 0, k, u, v, h => ⟨u, rfl, by rwa [Nat.zero_add] at h⟩
  | j + 1, k, u, v, h => by
    rw [show j + 1 + k = (j + k) + 1 by omega] at h
    obtain ⟨y, hy, h⟩ := h
    obtain ⟨x, h1, h2⟩ := Pt.part h
    exact ⟨x, ⟨y, hy, h1⟩, h2⟩
/-- the other way round -/
theorem Pt.turn {E : Nat → Nat → Prop} : ∀ {k u v}, Pt E k u v → Pt (fun a b => E b a) k v u
  | 0, u, v, h => (show u = v from h).symm
  | _ + 1, _, _, ⟨_, hx, h⟩ => (Pt.turn h).join (Pt.one hx)
theorem Pt.same {E F : Nat → Nat → Prop} (h : ∀ a b, E a b → F a b) : ∀ {k u v}, Pt E k u v → Pt F k u v
  | 0, _, _, h2 => h2
  | _ + 1, _, _, ⟨x, hx, h2⟩ => ⟨x, h _ _ hx, Pt.same h h2⟩

/-- a list without doubles, all of it in another one, is no longer -/
theorem nodup_le : ∀ {l m : List Nat}, l.Nodup → (∀ x ∈ l, x ∈ m) → l.length ≤ m.length
  | [], _, _, _ => by simp
  | a :: l, m, hd, hs => by
    have h1 : a ∈ m := hs a (by simp)
    have h2 : l.length ≤ (m.erase a).length := nodup_le (List.nodup_cons.1 hd).2 fun x hx => by
      refine (List.mem_erase_of_ne ?_).2 (hs x (by simp [hx]))
      rintro rfl; exact (List.nodup_cons.1 hd).1 hx
    rw [List.length_erase_of_mem h1] at h2
    have : 0 < m.length := List.length_pos_of_mem h1
    simp; omega
theorem nodup_lt {l : List Nat} {n : Nat} (hd : l.Nodup) (hs : ∀ x ∈ l, x < n) : l.length ≤ n := by
  have := nodup_le (m := List.range n) hd (fun x hx => List.mem_range.2 (hs x hx))
  simpa using this

/-! ### The order of a walk -/
/-- each one waits for the one ahead of it in the list: the way, its last place first -/
def Ch (E : Nat → Nat → Prop) : List Nat → Prop
  | [] => True
  | [_] => True
  | y :: x :: r => E x y ∧ Ch E (x :: r)
theorem Ch.tail {E : Nat → Nat → Prop} {y : Nat} {r : List Nat} (h : Ch E (y :: r)) : Ch E r := by
  cases r with
  | nil => trivial
  | cons x r => exact h.2
theorem Ch.reach {E : Nat → Nat → Prop} : ∀ {r : List Nat} {y : Nat}, Ch E (y :: r) → ∀ v ∈ y :: r, Rch E v y
  | [], y, _, v, hv => by simp at hv; subst hv; exact Rch.refl _
  | x :: r, y, h, v, hv => by
    rcases List.mem_cons.1 hv with rfl | hv
    · exact Rch.refl _
    · exact (Ch.reach h.2 v hv).trans (Rch.one h.1)

/-- what is known of the places that are settled: whom such a one waits for was settled ahead of it, or leads to all that were settled from it on, till itself was (or is not settled yet) -/
def Kp (E : Nat → Nat → Prop) (o wy : List Nat) : Prop :=
  ∀ a u b, o = a ++ u :: b → ∀ v, E u v → v ∈ a ∨ (∃ b1 b2, u :: b = b1 ++ v :: b2 ∧ ∀ x ∈ b1, Rch E v x) ∨ (v ∈ wy ∧ ∀ x ∈ u :: b, Rch E v x)
theorem Kp.nil {E : Nat → Nat → Prop} {wy : List Nat} : Kp E [] wy := by
  intro a u b h; simp at h
theorem Kp.more {E : Nat → Nat → Prop} {o wy : List Nat} {t : Nat} (h : Kp E o wy) : Kp E o (t :: wy) := by
  intro a u b e v hv
  rcases h a u b e v hv with h | h | ⟨h1, h2⟩
  · exact .inl h
  · exact .inr (.inl h)
  · exact .inr (.inr ⟨by simp [h1], h2⟩)
theorem Kp.pop {E : Nat → Nat → Prop} {o wy : List Nat} {t : Nat} (h : Kp E o (t :: wy)) (hc : Ch E (t :: wy)) (hf : ∀ v, E t v → v ∈ o ∨ v ∈ t :: wy) : Kp E (o ++ [t]) wy := by
  intro a u b e v hv
  rcases List.eq_nil_or_concat b with rfl | ⟨b', z, rfl⟩
  · have e2 := List.append_inj' e (by simp)
    obtain ⟨rfl, e3⟩ := e2
    simp at e3; subst e3
    rcases hf v hv with h1 | h1
    · exact .inl h1
    · rcases List.mem_cons.1 h1 with rfl | h1
      · exact .inr (.inl ⟨[], [], rfl, by simp⟩)
      · exact .inr (.inr ⟨h1, fun x hx => by simp at hx; subst hx; exact hc.reach v (by simp [h1])⟩)
  · rw [List.concat_eq_append] at e ⊢
    rw [show a ++ u :: (b' ++ [z]) = (a ++ u :: b') ++ [z] by simp] at e
    have e2 := List.append_inj' e (by simp)
    obtain ⟨e3, e4⟩ := e2
    simp at e4; subst e4
    rcases h a u b' e3 v hv with h1 | ⟨b1, b2, h1, h2⟩ | ⟨h1, h2⟩
    · exact .inl h1
    · exact .inr (.inl ⟨b1, b2 ++ [t], by rw [← List.cons_append, h1]; simp, h2⟩)
    · rcases List.mem_cons.1 h1 with rfl | h1
      · exact .inr (.inl ⟨u :: b', [], by simp, h2⟩)
      · refine .inr (.inr ⟨h1, fun x hx => ?_⟩)
        rw [← List.cons_append, List.mem_append] at hx
        rcases hx with hx | hx
        · exact h2 x hx
        · simp at hx; subst hx; exact hc.reach v (by simp [h1])

/-- all places are settled -/
structure Stl (E : Nat → Nat → Prop) (n : Nat) (o : List Nat) : Prop where
  nd : o.Nodup
  all : ∀ x, x ∈ o ↔ x < n
  kp : ∀ a u b, o = a ++ u :: b → ∀ v, E u v → v ∈ a ∨ ∃ b1 b2, u :: b = b1 ++ v :: b2 ∧ ∀ x ∈ b1, Rch E v x

theorem mem_part {x : Nat} {l : List Nat} (h : x ∈ l) : ∃ a b, l = a ++ x :: b := List.append_of_mem h

/-- a way from a place that was settled ahead of x to one that was not: one of it leads to x -/
theorem Stl.cross {E : Nat → Nat → Prop} {n : Nat} {o : List Nat} (h : Stl E n o) {a1 r : List Nat} {x p : Nat} (e : o = a1 ++ x :: r) (hp : p ∉ a1) :
    ∀ {j z}, z ∈ a1 → Pt E j z p → ∃ i v, i < j ∧ Pt E i v p ∧ Rch E z v ∧ Rch E v x
  | 0, z, hz, hw => by have : z = p := hw; subst this; exact absurd hz hp
  | j + 1, z, hz, ⟨y, hy, hw⟩ => by
    by_cases hya : y ∈ a1
    · obtain ⟨i, v, h1, h2, h3, h4⟩ := Stl.cross h e hp hya hw
      exact ⟨i, v, by omega, h2, (Rch.one hy).trans h3, h4⟩
    · refine ⟨j, y, by omega, hw, Rch.one hy, ?_⟩
      obtain ⟨c1, c2, rfl⟩ := mem_part hz
      have e2 : o = c1 ++ z :: (c2 ++ x :: r) := by rw [e]; simp
      rcases h.kp c1 z _ e2 y hy with h1 | ⟨b1, b2, h1, h2⟩
      · exact absurd (by simp [h1]) hya
      · rw [← List.cons_append] at h1
        rcases List.append_eq_append_iff.1 h1 with ⟨c, h3, h4⟩ | ⟨c, h3, h4⟩
        · cases c with
          | nil => simp at h4; obtain ⟨rfl, _⟩ := h4; exact Rch.refl _
          | cons q c =>
            simp at h4
            exact h2 x (by rw [h3, h4.1]; simp)
        · cases c with
          | nil => simp at h4; obtain ⟨rfl, _⟩ := h4; exact Rch.refl _
          | cons q c =>
            simp at h4
            exfalso; apply hya
            rw [List.mem_append, h3, ← h4.1]; simp

/-- of those that lead to none that was settled later: whoever leads to p is led to by it -/
theorem Stl.back {E : Nat → Nat → Prop} {n : Nat} {o : List Nat} (h : Stl E n o) (hE : ∀ u v, E u v → u < n) {a b : List Nat} {p : Nat} (e : o = a ++ p :: b) :
    ∀ (m k : Nat), k ≤ m → ∀ x, Pt E k x p → (∀ q ∈ b, ¬ Rch E x q) → Rch E p x
  | m, 0, _, x, hw, _ => by have : x = p := hw; subst this; exact Rch.refl _
  | 0, k + 1, hm, _, _, _ => by omega
  | m + 1, k + 1, hm, x, ⟨y, hy, hw⟩, hq => by
    have hqy : ∀ q ∈ b, ¬ Rch E y q := fun q hb hr => hq q hb ((Rch.one hy).trans hr)
    have hpy : Rch E p y := Stl.back h hE e m k (by omega) y hw hqy
    have hxo : x ∈ o := (h.all x).2 (hE x y hy)
    have hxb : x ∉ b := fun hb => hq x hb (Rch.refl _)
    by_cases hxp : x = p
    · subst hxp; exact Rch.refl _
    have hxa : x ∈ a := by
      rw [e, List.mem_append, List.mem_cons] at hxo
      rcases hxo with h1 | h1 | h1
      · exact h1
      · exact absurd h1 hxp
      · exact absurd h1 hxb
    obtain ⟨a1, a2, rfl⟩ := mem_part hxa
    have e2 : o = a1 ++ x :: (a2 ++ p :: b) := by rw [e]; simp
    rcases h.kp a1 x _ e2 y hy with h1 | ⟨b1, b2, h1, h2⟩
    · have hnd := h.nd
      rw [e2] at hnd
      have hp : p ∉ a1 := fun hpa => by
        have := (List.nodup_append.1 hnd).2.2 p hpa p (by simp)
        exact this rfl
      obtain ⟨i, v, h3, h4, h5, h6⟩ := Stl.cross h e2 hp h1 hw
      have hqv : ∀ q ∈ b, ¬ Rch E v q := fun q hb hr => hqy q hb (h5.trans hr)
      exact (Stl.back h hE e m i (by omega) v h4 hqv).trans h6
    · cases b1 with
      | nil => simp at h1; rw [h1.1]; exact hpy
      | cons q b1 =>
        simp at h1
        exact hpy.trans (by rw [h1.1]; exact h2 q (by simp))
/-- where there is no ring, whom one waits for is settled ahead of it -/
theorem Stl.down {E : Nat → Nat → Prop} {n : Nat} {o : List Nat} (h : Stl E n o) (hr : ∀ x, ¬ OnR E x) {a b : List Nat} {u v : Nat} (e : o = a ++ u :: b) (hv : E u v) : v ∈ a := by
  rcases h.kp a u b e v hv with h1 | ⟨b1, b2, h1, h2⟩
  · exact h1
  · exfalso
    cases b1 with
    | nil => simp at h1; exact hr u (OnR.of hv (by rw [h1.1]; exact Rch.refl _))
    | cons q b1 => simp at h1; exact hr u (OnR.of hv (by rw [h1.1]; exact h2 q (by simp)))

end Go.Proofs.Ytkgjmejpbklabaa
