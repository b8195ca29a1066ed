/-
  Layer 15, plain mathematics of edges: ways, and the order in which a walk that goes as deep as it can is done with the places. Layer 15, plain mathematics of edges: a walk that goes as deep as it can. Layer 15, plain mathematics of edges: a flood, the nearer ones first; the least place on a ring. Layer 15, plain mathematics of edges: what the ring is that is told, and what the heights are. Layer 15, plain mathematics of edges: what the graph of edges is.
-/
namespace Go.Proofs.YtkgjmejpbklabaaGreat

/-- a way of k edges -/
def Pt (E : Nat → Nat → Prop) : Nat → Nat → Nat → Prop
  | 0, u, v => u = v
  | k + 1, u, v => ∃ x, E u x ∧ Pt E k x v
/-- a way -/
def Rch (E : Nat → Nat → Prop) (u v : Nat) : Prop := ∃ k, Pt E k u v
/-- it stands on a ring -/
def OnR (E : Nat → Nat → Prop) (x : Nat) : Prop := ∃ k, Pt E (k + 1) x x

theorem Pt.join {E : Nat → Nat → Prop} : ∀ {j k u x v}, Pt E j u x → Pt E k x v → Pt E (j + k) u v
  | 0, k, u, x, v, h, h2 => by have e : u = x := h; subst e; rw [Nat.zero_add]; exact h2
  | j + 1, k, u, x, v, ⟨y, hy, h⟩, h2 => by rw [show j + 1 + k = (j + k) + 1 by omega]; exact ⟨y, hy, Pt.join h h2⟩
theorem Pt.one {E : Nat → Nat → Prop} {u v : Nat} (h : E u v) : Pt E 1 u v := ⟨v, h, rfl⟩
theorem Rch.refl {E : Nat → Nat → Prop} (u : Nat) : Rch E u u := ⟨0, rfl⟩
theorem Rch.trans {E : Nat → Nat → Prop} {u x v : Nat} (h : Rch E u x) (h2 : Rch E x v) : Rch E u v := by
  obtain ⟨j, h⟩ := h; obtain ⟨k, h2⟩ := h2; exact ⟨j + k, h.join h2⟩
theorem Rch.one {E : Nat → Nat → Prop} {u v : Nat} (h : E u v) : Rch E u v := ⟨1, Pt.one h⟩
/-- an edge, and a way back -/
theorem OnR.of {E : Nat → Nat → Prop} {x y : Nat} (h : E x y) (h2 : Rch E y x) : OnR E x := by
  obtain ⟨k, h2⟩ := h2; exact ⟨k, y, h, h2⟩
theorem OnR.out {E : Nat → Nat → Prop} {x : Nat} (h : OnR E x) : ∃ y, E x y ∧ Rch E y x := by
  obtain ⟨k, y, hy, h⟩ := h; exact ⟨y, hy, k, h⟩
/-- a way can be parted at each of its places -/
theorem Pt.part {E : Nat → Nat → Prop} : ∀ {j k u v}, Pt E (j + k) u v → ∃ x, Pt E j u x ∧ Pt E k x v
  | 0, k, u, v, h => ⟨u, rfl, by rwa [Nat.zero_add] at h⟩
  | j + 1, k, u, v, h => by
    rw [show j + 1 + k = (j + k) + 1 by omega] at h
    obtain ⟨y, hy, h⟩ := h
    obtain ⟨x, h1, h2⟩ := Pt.part h
    exact ⟨x, ⟨y, hy, h1⟩, h2⟩
/-- the other way round -/
theorem Pt.turn {E : Nat → Nat → Prop} : ∀ {k u v}, Pt E k u v → Pt (fun a b => E b a) k v u
  | 0, u, v, h => (show u = v from h).symm
  | _ + 1, _, _, ⟨_, hx, h⟩ => (Pt.turn h).join (Pt.one hx)
theorem Pt.same {E F : Nat → Nat → Prop} (h : ∀ a b, E a b → F a b) : ∀ {k u v}, Pt E k u v → Pt F k u v
  | 0, _, _, h2 => h2
  | _ + 1, _, _, ⟨x, hx, h2⟩ => ⟨x, h _ _ hx, Pt.same h h2⟩

/-- a list without doubles, all of it in another one, is no longer -/
theorem nodup_le : ∀ {l m : List Nat}, l.Nodup → (∀ x ∈ l, x ∈ m) → l.length ≤ m.length
  | [], _, _, _ => by simp
  | a :: l, m, hd, hs => by
    have h1 : a ∈ m := hs a (by simp)
    have h2 : l.length ≤ (m.erase a).length := nodup_le (List.nodup_cons.1 hd).2 fun x hx => by
      refine (List.mem_erase_of_ne ?_).2 (hs x (by simp [hx]))
      rintro rfl; exact (List.nodup_cons.1 hd).1 hx
    rw [List.length_erase_of_mem h1] at h2
    have : 0 < m.length := List.length_pos_of_mem h1
    simp; omega
theorem nodup_lt {l : List Nat} {n : Nat} (hd : l.Nodup) (hs : ∀ x ∈ l, x < n) : l.length ≤ n := by
  have := nodup_le (m := List.range n) hd (fun x hx => List.mem_range.2 (hs x hx))
  simpa using this

/-! ### The order of a walk -/
/-- each one waits for the one ahead of it in the list: the way, its last place first -/
def Ch (E : Nat → Nat → Prop) : List Nat → Prop
  | [] => True
  | [_] => True
  | y :: x :: r => E x y ∧ Ch E (x :: r)
theorem Ch.tail {E : Nat → Nat → Prop} {y : Nat} {r : List Nat} (h : Ch E (y :: r)) : Ch E r := by
  cases r with
  | nil => trivial
  | cons x r => exact h.2
theorem Ch.reach {E : Nat → Nat → Prop} : ∀ {r : List Nat} {y : Nat}, Ch E (y :: r) → ∀ v ∈ y :: r, Rch E v y
  | [], y, _, v, hv => by simp at hv; subst hv; exact Rch.refl _
  | x :: r, y, h, v, hv => by
    rcases List.mem_cons.1 hv with rfl | hv
    · exact Rch.refl _
    · exact (Ch.reach h.2 v hv).trans (Rch.one h.1)

/-- what is known of the places that are settled: whom such a one waits for was settled ahead of it, or leads to all that were settled from it on, till itself was (or is not settled yet) -/
def Kp (E : Nat → Nat → Prop) (o wy : List Nat) : Prop :=
  ∀ a u b, o = a ++ u :: b → ∀ v, E u v → v ∈ a ∨ (∃ b1 b2, u :: b = b1 ++ v :: b2 ∧ ∀ x ∈ b1, Rch E v x) ∨ (v ∈ wy ∧ ∀ x ∈ u :: b, Rch E v x)
theorem Kp.nil {E : Nat → Nat → Prop} {wy : List Nat} : Kp E [] wy := by
  intro a u b h; simp at h
theorem Kp.more {E : Nat → Nat → Prop} {o wy : List Nat} {t : Nat} (h : Kp E o wy) : Kp E o (t :: wy) := by
  intro a u b e v hv
  rcases h a u b e v hv with h | h | ⟨h1, h2⟩
  · exact .inl h
  · exact .inr (.inl h)
  · exact .inr (.inr ⟨by simp [h1], h2⟩)
theorem Kp.pop {E : Nat → Nat → Prop} {o wy : List Nat} {t : Nat} (h : Kp E o (t :: wy)) (hc : Ch E (t :: wy)) (hf : ∀ v, E t v → v ∈ o ∨ v ∈ t :: wy) : Kp E (o ++ [t]) wy := by
  intro a u b e v hv
  rcases List.eq_nil_or_concat b with rfl | ⟨b', z, rfl⟩
  · have e2 := List.append_inj' e (by simp)
    obtain ⟨rfl, e3⟩ := e2
    simp at e3; subst e3
    rcases hf v hv with h1 | h1
    · exact .inl h1
    · rcases List.mem_cons.1 h1 with rfl | h1
      · exact .inr (.inl ⟨[], [], rfl, by simp⟩)
      · exact .inr (.inr ⟨h1, fun x hx => by simp at hx; subst hx; exact hc.reach v (by simp [h1])⟩)
  · rw [List.concat_eq_append] at e ⊢
    rw [show a ++ u :: (b' ++ [z]) = (a ++ u :: b') ++ [z] by simp] at e
    have e2 := List.append_inj' e (by simp)
    obtain ⟨e3, e4⟩ := e2
    simp at e4; subst e4
    rcases h a u b' e3 v hv with h1 | ⟨b1, b2, h1, h2⟩ | ⟨h1, h2⟩
    · exact .inl h1
    · exact .inr (.inl ⟨b1, b2 ++ [t], by rw [← List.cons_append, h1]; simp, h2⟩)
    · rcases List.mem_cons.1 h1 with rfl | h1
      · exact .inr (.inl ⟨u :: b', [], by simp, h2⟩)
      · refine .inr (.inr ⟨h1, fun x hx => ?_⟩)
        rw [← List.cons_append, List.mem_append] at hx
        rcases hx with hx | hx
        · exact h2 x hx
        · simp at hx; subst hx; exact hc.reach v (by simp [h1])

/-- all places are settled -/
structure Stl (E : Nat → Nat → Prop) (n : Nat) (o : List Nat) : Prop where
  nd : o.Nodup
  all : ∀ x, x ∈ o ↔ x < n
  kp : ∀ a u b, o = a ++ u :: b → ∀ v, E u v → v ∈ a ∨ ∃ b1 b2, u :: b = b1 ++ v :: b2 ∧ ∀ x ∈ b1, Rch E v x

theorem mem_part {x : Nat} {l : List Nat} (h : x ∈ l) : ∃ a b, l = a ++ x :: b := List.append_of_mem h

/-- a way from a place that was settled ahead of x to one that was not: one of it leads to x -/
theorem Stl.cross {E : Nat → Nat → Prop} {n : Nat} {o : List Nat} (h : Stl E n o) {a1 r : List Nat} {x p : Nat} (e : o = a1 ++ x :: r) (hp : p ∉ a1) :
    ∀ {j z}, z ∈ a1 → Pt E j z p → ∃ i v, i < j ∧ Pt E i v p ∧ Rch E z v ∧ Rch E v x
  | 0, z, hz, hw => by have : z = p := hw; subst this; exact absurd hz hp
  | j + 1, z, hz, ⟨y, hy, hw⟩ => by
    by_cases hya : y ∈ a1
    · obtain ⟨i, v, h1, h2, h3, h4⟩ := Stl.cross h e hp hya hw
      exact ⟨i, v, by omega, h2, (Rch.one hy).trans h3, h4⟩
    · refine ⟨j, y, by omega, hw, Rch.one hy, ?_⟩
      obtain ⟨c1, c2, rfl⟩ := mem_part hz
      have e2 : o = c1 ++ z :: (c2 ++ x :: r) := by rw [e]; simp
      rcases h.kp c1 z _ e2 y hy with h1 | ⟨b1, b2, h1, h2⟩
      · exact absurd (by simp [h1]) hya
      · rw [← List.cons_append] at h1
        rcases List.append_eq_append_iff.1 h1 with ⟨c, h3, h4⟩ | ⟨c, h3, h4⟩
        · cases c with
          | nil => simp at h4; obtain ⟨rfl, _⟩ := h4; exact Rch.refl _
          | cons q c =>
            simp at h4
            exact h2 x (by rw [h3, h4.1]; simp)
        · cases c with
          | nil => simp at h4; obtain ⟨rfl, _⟩ := h4; exact Rch.refl _
          | cons q c =>
            simp at h4
            exfalso; apply hya
            rw [List.mem_append, h3, ← h4.1]; simp

/-- of those that lead to none that was settled later: whoever leads to p is led to by it -/
theorem Stl.back {E : Nat → Nat → Prop} {n : Nat} {o : List Nat} (h : Stl E n o) (hE : ∀ u v, E u v → u < n) {a b : List Nat} {p : Nat} (e : o = a ++ p :: b) :
    ∀ (m k : Nat), k ≤ m → ∀ x, Pt E k x p → (∀ q ∈ b, ¬ Rch E x q) → Rch E p x
  | m, 0, _, x, hw, _ => by have : x = p := hw; subst this; exact Rch.refl _
  | 0, k + 1, hm, _, _, _ => by omega
  | m + 1, k + 1, hm, x, ⟨y, hy, hw⟩, hq => by
    have hqy : ∀ q ∈ b, ¬ Rch E y q := fun q hb hr => hq q hb ((Rch.one hy).trans hr)
    have hpy : Rch E p y := Stl.back h hE e m k (by omega) y hw hqy
    have hxo : x ∈ o := (h.all x).2 (hE x y hy)
    have hxb : x ∉ b := fun hb => hq x hb (Rch.refl _)
    by_cases hxp : x = p
    · subst hxp; exact Rch.refl _
    have hxa : x ∈ a := by
      rw [e, List.mem_append, List.mem_cons] at hxo
      rcases hxo with h1 | h1 | h1
      · exact h1
      · exact absurd h1 hxp
      · exact absurd h1 hxb
    obtain ⟨a1, a2, rfl⟩ := mem_part hxa
    have e2 : o = a1 ++ x :: (a2 ++ p :: b) := by rw [e]; simp
    rcases h.kp a1 x _ e2 y hy with h1 | ⟨b1, b2, h1, h2⟩
    · have hnd := h.nd
      rw [e2] at hnd
      have hp : p ∉ a1 := fun hpa => by
        have := (List.nodup_append.1 hnd).2.2 p hpa p (by simp)
        exact this rfl
      obtain ⟨i, v, h3, h4, h5, h6⟩ := Stl.cross h e2 hp h1 hw
      have hqv : ∀ q ∈ b, ¬ Rch E v q := fun q hb hr => hqy q hb (h5.trans hr)
      exact (Stl.back h hE e m i (by omega) v h4 hqv).trans h6
    · cases b1 with
      | nil => simp at h1; rw [h1.1]; exact hpy
      | cons q b1 =>
        simp at h1
        exact hpy.trans (by rw [h1.1]; exact h2 q (by simp))
/-- where there is no ring, whom one waits for is settled ahead of it -/
theorem Stl.down {E : Nat → Nat → Prop} {n : Nat} {o : List Nat} (h : Stl E n o) (hr : ∀ x, ¬ OnR E x) {a b : List Nat} {u v : Nat} (e : o = a ++ u :: b) (hv : E u v) : v ∈ a := by
  rcases h.kp a u b e v hv with h1 | ⟨b1, b2, h1, h2⟩
  · exact h1
  · exfalso
    cases b1 with
    | nil => simp at h1; exact hr u (OnR.of hv (by rw [h1.1]; exact Rch.refl _))
    | cons q b1 => simp at h1; exact hr u (OnR.of hv (by rw [h1.1]; exact h2 q (by simp)))

end Go.Proofs.YtkgjmejpbklabaaGreat
namespace Go.Proofs.YtkgjmejpbklabaaGreat

/-- edges by lists -/
def Ed (nx : List (List Nat)) (u v : Nat) : Prop := v ∈ nx.getD u []
theorem Ed.lt {nx : List (List Nat)} {u v : Nat} (h : Ed nx u v) : u < nx.length := by
  unfold Ed at h
  by_cases hu : u < nx.length
  · exact hu
  · rw [List.getD, List.getElem?_eq_none (by omega)] at h; simp at h

/-- sums -/
def sm (f : Nat → Nat) : Nat → Nat
  | 0 => 0
  | n + 1 => sm f n + f n
theorem sm_le {f g : Nat → Nat} : ∀ {n : Nat}, (∀ x, x < n → g x ≤ f x) → sm g n ≤ sm f n
  | 0, _ => Nat.le_refl _
  | n + 1, h => Nat.add_le_add (sm_le fun x hx => h x (by omega)) (h n (by omega))
theorem sm_lt {f g : Nat → Nat} : ∀ {n x0 : Nat}, (∀ x, x < n → g x ≤ f x) → x0 < n → g x0 < f x0 → sm g n < sm f n
  | 0, _, _, h, _ => by omega
  | n + 1, x0, h, h0, h1 => by
    by_cases he : x0 = n
    · subst he
      have := sm_le (n := x0) fun x hx => h x (by omega)
      simp only [sm]; omega
    · have := sm_lt (n := n) (fun x hx => h x (by omega)) (by omega) h1
      have := h n (by omega)
      simp only [sm]; omega

theorem getD_set {α : Type} (l : List α) (i j : Nat) (a d : α) : (l.set i a).getD j d = if i = j ∧ i < l.length then a else l.getD j d := by
  simp only [List.getD, List.getElem?_set]
  by_cases h : i = j
  · subst h
    by_cases h2 : i < l.length
    · simp [h2]
    · simp [h2]
  · simp [h]
theorem getD_lt_of_ne {α : Type} {l : List α} {i : Nat} {d : α} (h : l.getD i d ≠ d) : i < l.length := by
  by_cases hi : i < l.length
  · exact hi
  · exfalso; apply h; simp [List.getD, List.getElem?_eq_none (Nat.le_of_not_lt hi)]

/-- how far a walk has come: those that are settled, the way (its last place first), who was met, along how many edges it has gone -/
structure Dfs (nx : List (List Nat)) (o wy : List Nat) (mt : List Bool) (gn : List Nat) : Prop where
  lm : mt.length = nx.length
  lg : gn.length = nx.length
  nd : (o ++ wy).Nodup
  mem : ∀ x, mt.getD x false = true ↔ (x ∈ o ∨ x ∈ wy)
  ch : Ch (Ed nx) wy
  le : ∀ x, gn.getD x 0 ≤ (nx.getD x []).length
  seen : ∀ x i v, i < gn.getD x 0 → (nx.getD x [])[i]? = some v → v ∈ o ∨ v ∈ wy
  full : ∀ x, x ∈ o → gn.getD x 0 = (nx.getD x []).length
  kp : Kp (Ed nx) o wy

theorem Dfs.start (nx : List (List Nat)) : Dfs nx [] [] (List.replicate nx.length false) (List.replicate nx.length 0) where
  lm := by simp
  lg := by simp
  nd := by simp
  mem := fun x => by
    by_cases h : x < nx.length <;> simp [List.getD, h]
  ch := trivial
  le := fun x => by
    have : (List.replicate nx.length 0).getD x 0 = 0 := by
      by_cases h : x < nx.length <;> simp [List.getD, h]
    rw [this]; exact Nat.zero_le _
  seen := fun x i v h => by
    have : (List.replicate nx.length 0).getD x 0 = 0 := by
      by_cases h : x < nx.length <;> simp [List.getD, h]
    omega
  full := fun x h => by simp at h
  kp := Kp.nil

theorem Dfs.lt {nx : List (List Nat)} {o wy : List Nat} {mt : List Bool} {gn : List Nat} (h : Dfs nx o wy mt gn) {x : Nat} (hx : x ∈ o ∨ x ∈ wy) : x < nx.length := by
  have := (h.mem x).2 hx
  rw [← h.lm]; exact getD_lt_of_ne (d := false) (by rw [this]; simp)
theorem Dfs.fresh {nx : List (List Nat)} {o wy : List Nat} {mt : List Bool} {gn : List Nat} (h : Dfs nx o wy mt gn) {x : Nat} (hx : mt.getD x false = false) : x ∉ o ∧ x ∉ wy :=
  ⟨fun hc => (by have := (h.mem x).2 (.inl hc); rw [hx] at this; exact Bool.noConfusion this), fun hc => (by have := (h.mem x).2 (.inr hc); rw [hx] at this; exact Bool.noConfusion this)⟩

theorem Dfs.put {nx : List (List Nat)} {o wy : List Nat} {mt : List Bool} {gn : List Nat} (h : Dfs nx o wy mt gn) {v : Nat} (hv : mt.getD v false = false) (hn : v < nx.length) (hc : Ch (Ed nx) (v :: wy)) : Dfs nx o (v :: wy) (mt.set v true) gn where
  lm := by simp [h.lm]
  lg := h.lg
  nd := by
    have hf := h.fresh hv
    have hnd := List.nodup_append.1 h.nd
    refine List.nodup_append.2 ⟨hnd.1, List.nodup_cons.2 ⟨hf.2, hnd.2.1⟩, fun a ha b hb e => ?_⟩
    subst e
    rcases List.mem_cons.1 hb with rfl | hb
    · exact hf.1 ha
    · exact hnd.2.2 a ha a hb rfl
  mem := fun x => by
    rw [getD_set]
    by_cases hx : v = x
    · subst hx; simp [h.lm, hn]
    · rw [if_neg (fun hc => hx hc.1), h.mem x]; simp [Ne.symm hx]
  ch := hc
  le := h.le
  seen := fun x i u h1 h2 => by
    rcases h.seen x i u h1 h2 with h3 | h3
    · exact .inl h3
    · exact .inr (by simp [h3])
  full := h.full
  kp := h.kp.more

theorem Dfs.root {nx : List (List Nat)} {o : List Nat} {mt : List Bool} {gn : List Nat} (h : Dfs nx o [] mt gn) {v : Nat} (hv : mt.getD v false = false) (hn : v < nx.length) : Dfs nx o [v] (mt.set v true) gn := h.put hv hn trivial

theorem Dfs.pop {nx : List (List Nat)} {o wy : List Nat} {mt : List Bool} {gn : List Nat} {t : Nat} (h : Dfs nx o (t :: wy) mt gn) (hg : gn.getD t 0 = (nx.getD t []).length) : Dfs nx (o ++ [t]) wy mt gn where
  lm := h.lm
  lg := h.lg
  nd := by have := h.nd; rw [show o ++ t :: wy = (o ++ [t]) ++ wy by simp] at this; exact this
  mem := fun x => by rw [h.mem x]; simp [or_assoc]
  ch := h.ch.tail
  le := h.le
  seen := fun x i u h1 h2 => by
    rcases h.seen x i u h1 h2 with h3 | h3
    · exact .inl (by simp [h3])
    · rcases List.mem_cons.1 h3 with rfl | h3
      · exact .inl (by simp)
      · exact .inr h3
  full := fun x hx => by
    rw [List.mem_append] at hx
    rcases hx with hx | hx
    · exact h.full x hx
    · simp at hx; subst hx; exact hg
  kp := h.kp.pop h.ch fun v hv => by
    obtain ⟨i, hi, e⟩ := List.getElem_of_mem hv
    exact h.seen t i v (by omega) (by rw [List.getElem?_eq_getElem hi, e])

theorem Dfs.pass {nx : List (List Nat)} {o wy : List Nat} {mt : List Bool} {gn : List Nat} {t v : Nat} (h : Dfs nx o (t :: wy) mt gn) (he : (nx.getD t [])[gn.getD t 0]? = some v) (hv : mt.getD v false = true) :
    Dfs nx o (t :: wy) mt (gn.set t (gn.getD t 0 + 1)) where
  lm := h.lm
  lg := by simp [h.lg]
  nd := h.nd
  mem := h.mem
  ch := h.ch
  le := fun x => by
    rw [getD_set]
    have hlt : gn.getD t 0 < (nx.getD t []).length := (List.getElem?_eq_some_iff.1 he).1
    by_cases hx : t = x ∧ t < gn.length
    · rw [if_pos hx, ← hx.1]; omega
    · rw [if_neg hx]; exact h.le x
  seen := fun x i u h1 h2 => by
    rw [getD_set] at h1
    by_cases hx : t = x ∧ t < gn.length
    · rw [if_pos hx] at h1
      obtain ⟨rfl, _⟩ := hx
      by_cases hi : i = gn.getD t 0
      · subst hi; rw [he] at h2; cases h2; exact (h.mem v).1 hv
      · exact h.seen t i u (by omega) h2
    · rw [if_neg hx] at h1; exact h.seen x i u h1 h2
  full := fun x hx => by
    rw [getD_set, if_neg]
    · exact h.full x hx
    · rintro ⟨rfl, _⟩
      exact (List.nodup_append.1 h.nd).2.2 t hx t (by simp) rfl
  kp := h.kp

theorem Dfs.push {nx : List (List Nat)} {o wy : List Nat} {mt : List Bool} {gn : List Nat} {t v : Nat} (h : Dfs nx o (t :: wy) mt gn) (he : (nx.getD t [])[gn.getD t 0]? = some v) (hv : mt.getD v false = false) (hn : v < nx.length) :
    Dfs nx o (v :: t :: wy) (mt.set v true) (gn.set t (gn.getD t 0 + 1)) := by
  have hE : Ed nx t v := List.mem_of_getElem? he
  have h1 := h.put hv hn ⟨hE, h.ch⟩
  have hne : ∀ x, x ∈ o → x ≠ t := fun x hx e => by
    subst e
    exact (List.nodup_append.1 h.nd).2.2 x hx x (by simp) rfl
  have hlt : gn.getD t 0 < (nx.getD t []).length := (List.getElem?_eq_some_iff.1 he).1
  exact { h1 with
    lg := by simp [h.lg]
    le := fun x => by
      rw [getD_set]
      by_cases hx : t = x ∧ t < gn.length
      · rw [if_pos hx, ← hx.1]; omega
      · rw [if_neg hx]; exact h.le x
    seen := fun x i u h2 h3 => by
      rw [getD_set] at h2
      by_cases hx : t = x ∧ t < gn.length
      · rw [if_pos hx] at h2
        obtain ⟨rfl, _⟩ := hx
        by_cases hi : i = gn.getD t 0
        · subst hi; rw [he] at h3; cases h3; exact .inr (by simp)
        · exact h1.seen t i u (by omega) h3
      · rw [if_neg hx] at h2; exact h1.seen x i u h2 h3
    full := fun x hx => by
      rw [getD_set, if_neg (fun hc => hne x hx hc.1.symm)]
      exact h.full x hx }

theorem Dfs.done {nx : List (List Nat)} {o : List Nat} {mt : List Bool} {gn : List Nat} (h : Dfs nx o [] mt gn) (ha : ∀ x, x < nx.length → mt.getD x false = true) : Stl (Ed nx) nx.length o where
  nd := by simpa using h.nd
  all := fun x => ⟨fun hx => h.lt (.inl hx), fun hx => by have := (h.mem x).1 (ha x hx); simpa using this⟩
  kp := fun a u b e v hv => by
    rcases h.kp a u b e v hv with h1 | h1 | ⟨h1, _⟩
    · exact .inl h1
    · exact .inr h1
    · simp at h1

/-- how much is left to do -/
def lft (nx : List (List Nat)) (o gn : List Nat) : Nat := sm (fun x => (nx.getD x []).length - gn.getD x 0) nx.length + (nx.length - o.length)
theorem Dfs.room {nx : List (List Nat)} {o wy : List Nat} {mt : List Bool} {gn : List Nat} (h : Dfs nx o wy mt gn) : o.length + wy.length ≤ nx.length := by
  have := nodup_lt h.nd (n := nx.length) fun x hx => by
    rw [List.mem_append] at hx; exact h.lt hx
  simpa using this
theorem Dfs.lft_pop {nx : List (List Nat)} {o wy : List Nat} {mt : List Bool} {gn : List Nat} {t : Nat} (h : Dfs nx o (t :: wy) mt gn) : lft nx (o ++ [t]) gn < lft nx o gn := by
  have := h.room
  simp only [lft, List.length_append, List.length_cons, List.length_nil] at this ⊢
  omega
theorem Dfs.lft_go {nx : List (List Nat)} {o wy : List Nat} {mt : List Bool} {gn : List Nat} {t : Nat} (h : Dfs nx o (t :: wy) mt gn) (hg : gn.getD t 0 < (nx.getD t []).length) : lft nx o (gn.set t (gn.getD t 0 + 1)) < lft nx o gn := by
  have ht : t < nx.length := h.lt (.inr (by simp))
  have : sm (fun x => (nx.getD x []).length - (gn.set t (gn.getD t 0 + 1)).getD x 0) nx.length < sm (fun x => (nx.getD x []).length - gn.getD x 0) nx.length := by
    refine sm_lt (x0 := t) (fun x _ => ?_) ht ?_
    · simp only [getD_set]
      by_cases hx : t = x ∧ t < gn.length
      · rw [if_pos hx, ← hx.1]; omega
      · rw [if_neg hx]; exact Nat.le_refl _
    · simp only [getD_set, h.lg, ht, and_self, if_true]; omega
  simp only [lft]; omega

end Go.Proofs.YtkgjmejpbklabaaGreat
namespace Go.Proofs.YtkgjmejpbklabaaGreat

/-- how far it is to a place that no way leads to -/
def NW : Nat := 9223372036854775807
/-- how far a place is -/
abbrev fg (f : List Nat) (x : Nat) : Nat := f.getD x NW
/-- an edge (told at its end), from a place that had not been reached -/
def Eu (bk : List (List Nat)) (f0 : List Nat) (u v : Nat) : Prop := u ∈ bk.getD v [] ∧ fg f0 u = NW

/-- how far a flood has come: i of those that it has reached are done -/
structure Fld (bk : List (List Nat)) (f0 : List Nat) (r : Nat) (q f : List Nat) (i : Nat) : Prop where
  l0 : f0.length = bk.length
  ln : f.length = bk.length
  hd : q[0]? = some r
  nd : q.Nodup
  un : ∀ x, x ∈ q → fg f0 x = NW ∧ x < bk.length
  fr : ∀ x, x ∉ q → fg f x = fg f0 x
  inq : ∀ k x : Nat, q[k]? = some x → fg f x ≤ k
  wy : ∀ x, x ∈ q → Pt (Eu bk f0) (fg f x) x r
  srt : ∀ k l x y : Nat, k ≤ l → q[k]? = some x → q[l]? = some y → fg f x ≤ fg f y
  top : ∀ x y : Nat, q[i]? = some x → y ∈ q → fg f y ≤ fg f x + 1
  dn : ∀ k x u : Nat, k < i → q[k]? = some x → u ∈ bk.getD x [] → fg f0 u = NW → u ∈ q ∧ fg f u ≤ fg f x + 1

theorem Fld.begin {bk : List (List Nat)} {f0 : List Nat} {r : Nat} (h0 : f0.length = bk.length) (hr : r < bk.length) (hu : fg f0 r = NW) : Fld bk f0 r [r] (f0.set r 0) 0 where
  l0 := h0
  ln := by simp [h0]
  hd := rfl
  nd := by simp
  un := fun x hx => by simp at hx; subst hx; exact ⟨hu, hr⟩
  fr := fun x hx => by
    simp at hx
    simp only [fg]; rw [getD_set, if_neg (fun hc => hx hc.1.symm)]
  inq := fun k x hk => by
    have : k = 0 ∧ r = x := by
      cases k with
      | zero => simpa using hk
      | succ k => simp at hk
    obtain ⟨rfl, rfl⟩ := this
    simp only [fg]; rw [getD_set, if_pos ⟨rfl, by omega⟩]; exact Nat.le_refl _
  wy := fun x hx => by
    simp at hx; subst hx
    have : fg (f0.set x 0) x = 0 := by simp only [fg]; rw [getD_set, if_pos ⟨rfl, by omega⟩]
    rw [this]; rfl
  srt := fun k l x y _ hx hy => by
    have e1 : x ∈ [r] := List.mem_of_getElem? hx
    have e2 : y ∈ [r] := List.mem_of_getElem? hy
    simp at e1 e2; rw [e1, e2]; exact Nat.le_refl _
  top := fun x y hx hy => by
    have e1 : x ∈ [r] := List.mem_of_getElem? hx
    simp at e1 hy; rw [e1, hy]; omega
  dn := fun k x u hk => by omega

theorem Fld.small {bk : List (List Nat)} {f0 : List Nat} {r : Nat} {q f : List Nat} {i : Nat} (h : Fld bk f0 r q f i) : q.length ≤ bk.length := nodup_lt h.nd fun x hx => (h.un x hx).2
theorem Fld.lt {bk : List (List Nat)} {f0 : List Nat} {r : Nat} {q f : List Nat} {i : Nat} (h : Fld bk f0 r q f i) {x : Nat} (hx : x ∈ q) : fg f x < bk.length := by
  obtain ⟨k, hk, e⟩ := List.getElem_of_mem hx
  have := h.inq k x (by rw [List.getElem?_eq_getElem hk, e])
  have := h.small
  omega

/-- .. and j of the edges of the next one, too -/
structure Fli (bk : List (List Nat)) (f0 : List Nat) (r : Nat) (q f : List Nat) (i t j : Nat) : Prop extends Fld bk f0 r q f i where
  cur : q[i]? = some t
  now : ∀ l u : Nat, l < j → (bk.getD t [])[l]? = some u → fg f0 u = NW → u ∈ q ∧ fg f u ≤ fg f t + 1

theorem Fld.turn {bk : List (List Nat)} {f0 : List Nat} {r : Nat} {q f : List Nat} {i t : Nat} (h : Fld bk f0 r q f i) (hc : q[i]? = some t) : Fli bk f0 r q f i t 0 := { h with cur := hc, now := fun l u hl => by omega }
theorem Fli.next {bk : List (List Nat)} {f0 : List Nat} {r : Nat} {q f : List Nat} {i t : Nat} (h : Fli bk f0 r q f i t (bk.getD t []).length) : Fld bk f0 r q f (i + 1) := { h with
  top := fun x y hx hy => by
    have h1 := h.top t y h.cur hy
    have h2 := h.srt i (i + 1) t x (by omega) h.cur hx
    omega
  dn := fun k x u hk hx hu h0 => by
    by_cases hki : k = i
    · subst hki
      have := h.cur; rw [hx] at this; cases this
      obtain ⟨l, hl, e⟩ := List.getElem_of_mem hu
      exact h.now l u hl (by rw [List.getElem?_eq_getElem hl, e]) h0
    · exact h.dn k x u (by omega) hx hu h0 }
theorem Fli.skip {bk : List (List Nat)} {f0 : List Nat} {r : Nat} {q f : List Nat} {i t j u : Nat} (h : Fli bk f0 r q f i t j) (hj : (bk.getD t [])[j]? = some u) (hu : fg f u ≠ NW) : Fli bk f0 r q f i t (j + 1) := { h with
  now := fun l v hl hv h0 => by
    by_cases hlj : l = j
    · subst hlj; rw [hj] at hv; cases hv
      by_cases hq : u ∈ q
      · exact ⟨hq, h.top t u h.cur hq⟩
      · exact absurd (by rw [h.fr u hq]; exact h0) hu
    · exact h.now l v (by omega) hv h0 }
theorem Fli.add {bk : List (List Nat)} {f0 : List Nat} {r : Nat} {q f : List Nat} {i t j u : Nat} (h : Fli bk f0 r q f i t j) (hb : bk.length < NW) (hj : (bk.getD t [])[j]? = some u) (hn : u < bk.length) (hu : fg f u = NW) :
    Fli bk f0 r (q ++ [u]) (f.set u (fg f t + 1)) i t (j + 1) := by
  have huq : u ∉ q := fun hq => by have := h.lt hq; omega
  have h0 : fg f0 u = NW := by rw [← h.fr u huq]; exact hu
  have hlu : u < f.length := by rw [h.ln]; exact hn
  have hself : fg (f.set u (fg f t + 1)) u = fg f t + 1 := by simp only [fg]; rw [getD_set, if_pos ⟨rfl, hlu⟩]
  have hold : ∀ x, x ≠ u → fg (f.set u (fg f t + 1)) x = fg f x := fun x hx => by simp only [fg]; rw [getD_set, if_neg (fun hc => hx hc.1.symm)]
  have hne : ∀ x, x ∈ q → x ≠ u := fun x hx e => huq (e ▸ hx)
  have htq : t ∈ q := List.mem_of_getElem? h.cur
  have hiq : i < q.length := (List.getElem?_eq_some_iff.1 h.cur).1
  have hcur : (q ++ [u])[i]? = some t := by rw [List.getElem?_append_left hiq]; exact h.cur
  have hpart : ∀ {k x : Nat}, (q ++ [u])[k]? = some x → (q[k]? = some x ∧ x ∈ q) ∨ (k = q.length ∧ x = u) := fun {k x} hk => by
    by_cases hl : k < q.length
    · rw [List.getElem?_append_left hl] at hk; exact .inl ⟨hk, List.mem_of_getElem? hk⟩
    · have : k = q.length := by
        have := (List.getElem?_eq_some_iff.1 hk).1
        simp at this; omega
      subst this
      simp at hk; exact .inr ⟨rfl, hk.symm⟩
  exact {
    l0 := h.l0
    ln := by simp [h.ln]
    hd := by
      have : 0 < q.length := by omega
      rw [List.getElem?_append_left this]; exact h.hd
    nd := by
      refine List.nodup_append.2 ⟨h.nd, by simp, fun a ha b hb e => ?_⟩
      simp at hb; subst hb; subst e; exact huq ha
    un := fun x hx => by
      rcases List.mem_append.1 hx with hx | hx
      · exact h.un x hx
      · simp at hx; subst hx; exact ⟨h0, hn⟩
    fr := fun x hx => by
      simp at hx
      rw [hold x hx.2]; exact h.fr x hx.1
    inq := fun k x hk => by
      rcases hpart hk with ⟨h1, h2⟩ | ⟨rfl, rfl⟩
      · rw [hold x (hne x h2)]; exact h.inq k x h1
      · rw [hself]
        have := h.inq i t h.cur
        omega
    wy := fun x hx => by
      rcases List.mem_append.1 hx with hx | hx
      · rw [hold x (hne x hx)]; exact h.wy x hx
      · simp at hx; subst hx
        rw [hself]
        exact ⟨t, ⟨List.mem_of_getElem? hj, h0⟩, h.wy t htq⟩
    srt := fun k l x y hkl hx hy => by
      rcases hpart hx with ⟨h1, h2⟩ | ⟨rfl, rfl⟩
      · rcases hpart hy with ⟨h3, h4⟩ | ⟨rfl, rfl⟩
        · rw [hold x (hne x h2), hold y (hne y h4)]; exact h.srt k l x y hkl h1 h3
        · rw [hold x (hne x h2), hself]; exact h.top t x h.cur h2
      · rcases hpart hy with ⟨h3, h4⟩ | ⟨h3, rfl⟩
        · have := (List.getElem?_eq_some_iff.1 h3).1; omega
        · exact Nat.le_refl _
    top := fun x y hx hy => by
      rw [hcur] at hx; cases hx
      rw [hold t (hne t htq)]
      rcases List.mem_append.1 hy with hy | hy
      · rw [hold y (hne y hy)]; exact h.top t y h.cur hy
      · simp at hy; subst hy; rw [hself]; exact Nat.le_refl _
    dn := fun k x v hk hx hv hv0 => by
      rcases hpart hx with ⟨h1, h2⟩ | ⟨rfl, rfl⟩
      · obtain ⟨h3, h4⟩ := h.dn k x v hk h1 hv hv0
        rw [hold x (hne x h2), hold v (hne v h3)]
        exact ⟨by simp [h3], h4⟩
      · omega
    cur := hcur
    now := fun l v hl hv hv0 => by
      rw [hold t (hne t htq)]
      by_cases hlj : l = j
      · subst hlj; rw [hj] at hv; cases hv
        rw [hself]; exact ⟨by simp, Nat.le_refl _⟩
      · obtain ⟨h3, h4⟩ := h.now l v (by omega) hv hv0
        rw [hold v (hne v h3)]; exact ⟨by simp [h3], h4⟩ }

/-- what a flood comes to -/
structure Flo (bk : List (List Nat)) (f0 : List Nat) (r : Nat) (q f : List Nat) : Prop where
  ln : f.length = bk.length
  nd : q.Nodup
  un : ∀ x, x ∈ q → fg f0 x = NW ∧ x < bk.length
  fr : ∀ x, x ∉ q → fg f x = fg f0 x
  lt : ∀ x, x ∈ q → fg f x < bk.length
  wy : ∀ x, x ∈ q → Pt (Eu bk f0) (fg f x) x r
  all : ∀ k x : Nat, Pt (Eu bk f0) k x r → x ∈ q ∧ fg f x ≤ k
theorem Fld.done {bk : List (List Nat)} {f0 : List Nat} {r : Nat} {q f : List Nat} (h : Fld bk f0 r q f q.length) : Flo bk f0 r q f where
  ln := h.ln
  nd := h.nd
  un := h.un
  fr := h.fr
  lt := fun x hx => h.lt hx
  wy := h.wy
  all := by
    intro k
    induction k with
    | zero =>
      intro x hx
      have : x = r := hx
      subst this
      exact ⟨List.mem_of_getElem? h.hd, h.inq 0 x h.hd⟩
    | succ k ih =>
      rintro x ⟨y, ⟨hy, h0⟩, hw⟩
      obtain ⟨h1, h2⟩ := ih y hw
      obtain ⟨l, hl, e⟩ := List.getElem_of_mem h1
      obtain ⟨h3, h4⟩ := h.dn l y x hl (by rw [List.getElem?_eq_getElem hl, e]) hy h0
      exact ⟨h3, by omega⟩
theorem Flo.root {bk : List (List Nat)} {f0 : List Nat} {r : Nat} {q f : List Nat} (h : Flo bk f0 r q f) : r ∈ q := (h.all 0 r rfl).1

/-- the edges, the other way round -/
def Tnd (nx bk : List (List Nat)) : Prop := bk.length = nx.length ∧ (∀ u v : Nat, u ∈ bk.getD v [] ↔ Ed nx u v) ∧ ∀ v : Nat, (bk.getD v []).Nodup
/-- .. those of the places below k, and j of k's -/
def Tni (nx : List (List Nat)) (k j : Nat) (bk : List (List Nat)) : Prop := bk.length = nx.length ∧ (∀ u v : Nat, u ∈ bk.getD v [] ↔ (u < k ∧ Ed nx u v) ∨ (u = k ∧ v ∈ (nx.getD k []).take j)) ∧ ∀ v : Nat, (bk.getD v []).Nodup
theorem Tni.start (nx : List (List Nat)) : Tni nx 0 0 (List.replicate nx.length []) := by
  have e : ∀ v, (List.replicate nx.length ([] : List Nat)).getD v [] = [] := fun v => by
    by_cases h : v < nx.length <;> simp [List.getD, h]
  refine ⟨by simp, fun u v => ?_, fun v => ?_⟩
  · rw [e]; simp
  · rw [e]; simp
theorem Tni.next {nx bk : List (List Nat)} {k : Nat} (h : Tni nx k (nx.getD k []).length bk) : Tni nx (k + 1) 0 bk := by
  refine ⟨h.1, fun u v => ?_, h.2.2⟩
  rw [h.2.1 u v, List.take_length]
  constructor
  · rintro (⟨h1, h2⟩ | ⟨rfl, h2⟩)
    · exact .inl ⟨by omega, h2⟩
    · exact .inl ⟨by omega, h2⟩
  · rintro (⟨h1, h2⟩ | ⟨_, h2⟩)
    · by_cases hu : u = k
      · subst hu; exact .inr ⟨rfl, h2⟩
      · exact .inl ⟨by omega, h2⟩
    · simp at h2
theorem Tni.put {nx bk : List (List Nat)} {k j v : Nat} (h : Tni nx k j bk) (hj : (nx.getD k [])[j]? = some v) (hn : v < nx.length) (hd : (nx.getD k []).Nodup) : Tni nx k (j + 1) (bk.set v (bk.getD v [] ++ [k])) := by
  have ht : (nx.getD k []).take (j + 1) = (nx.getD k []).take j ++ [v] := by rw [List.take_add_one, hj]; rfl
  have hnk : k ∉ bk.getD v [] := by
    rw [h.2.1 k v]
    rintro (⟨h1, _⟩ | ⟨_, h1⟩)
    · omega
    · have h2 : ((nx.getD k []).take j ++ [v]).Nodup := by rw [← ht]; exact hd.sublist (List.take_sublist _ _)
      exact (List.nodup_append.1 h2).2.2 v h1 v (by simp) rfl
  refine ⟨by simp [h.1], fun u x => ?_, fun x => ?_⟩
  case refine_2 =>
    rw [getD_set]
    by_cases hx : v = x
    · subst hx
      rw [if_pos ⟨rfl, by rw [h.1]; exact hn⟩]
      refine List.nodup_append.2 ⟨h.2.2 v, by simp, fun a ha b hb e => ?_⟩
      simp at hb; subst hb; subst e; exact hnk ha
    · rw [if_neg (fun hc => hx hc.1)]; exact h.2.2 x
  rw [ht, getD_set]
  by_cases hx : v = x
  · subst hx
    rw [if_pos ⟨rfl, by rw [h.1]; exact hn⟩, List.mem_append, h.2.1 u v]
    simp
    constructor
    · rintro ((h1 | h1) | h1)
      · exact .inl h1
      · exact .inr h1.1
      · exact .inr h1
    · rintro (h1 | h1)
      · exact .inl (.inl h1)
      · exact .inr h1
  · rw [if_neg (fun hc => hx hc.1), h.2.1 u x]
    simp [Ne.symm hx]
theorem Tni.done {nx bk : List (List Nat)} (h : Tni nx nx.length 0 bk) : Tnd nx bk := by
  refine ⟨h.1, fun u v => ?_, h.2.2⟩
  rw [h.2.1 u v]
  constructor
  · rintro (⟨_, h2⟩ | ⟨_, h2⟩)
    · exact h2
    · simp at h2
  · intro h2; exact .inl ⟨h2.lt, h2⟩

/-! ### The least on a ring -/
/-- how far the search has come: those of b are done; the least so far -/
structure Lst (nx : List (List Nat)) (b f : List Nat) (m : Nat) : Prop where
  ln : f.length = nx.length
  cov : ∀ x, x ∈ b → fg f x ≠ NW
  cl : ∀ u v : Nat, Ed nx u v → fg f v ≠ NW → fg f u ≠ NW
  lo : m = NW ∨ (m < nx.length ∧ OnR (Ed nx) m)
  mn : ∀ x, OnR (Ed nx) x → fg f x ≠ NW → m ≤ x
theorem fg_rep (n x : Nat) : fg (List.replicate n NW) x = NW := by
  by_cases h : x < n <;> simp [fg, List.getD, h]
theorem Lst.start (nx : List (List Nat)) : Lst nx [] (List.replicate nx.length NW) NW where
  ln := by simp
  cov := fun x h => by simp at h
  cl := fun u v _ h => absurd (fg_rep _ _) h
  lo := .inl rfl
  mn := fun x _ h => absurd (fg_rep _ _) h
theorem Lst.skip {nx : List (List Nat)} {b f : List Nat} {m p : Nat} (h : Lst nx b f m) (hp : fg f p ≠ NW) : Lst nx (p :: b) f m := { h with
  cov := fun x hx => by
    rcases List.mem_cons.1 hx with rfl | hx
    · exact hp
    · exact h.cov x hx }
theorem Lst.blocked {nx : List (List Nat)} {b f : List Nat} {m : Nat} (h : Lst nx b f m) : ∀ {k u v : Nat}, Pt (Ed nx) k u v → fg f v ≠ NW → fg f u ≠ NW
  | 0, u, v, hw, hv => by have : u = v := hw; subst this; exact hv
  | k + 1, u, v, ⟨x, hx, hw⟩, hv => h.cl u x hx (Lst.blocked h hw hv)
/-- whoever is flooded leads to p, and is led to by it -/
theorem Lst.both {nx bk : List (List Nat)} {o a b f q f' : List Nat} {m p : Nat} (h : Lst nx b f m) (hs : Stl (Ed nx) nx.length o) (e : o = a ++ p :: b) (ht : Tnd nx bk) (hp : fg f p = NW) (hf : Flo bk f p q f') :
    ∀ x, x ∈ q ↔ (Rch (Ed nx) x p ∧ Rch (Ed nx) p x) := by
  have up : ∀ {k u : Nat}, Pt (Ed nx) k u p → fg f u = NW → Pt (Eu bk f) k u p := by
    intro k
    induction k with
    | zero => intro u hw _; exact hw
    | succ k ih =>
      rintro u ⟨x, hx, hw⟩ hu
      refine ⟨x, ⟨(ht.2.1 u x).2 hx, hu⟩, ih hw ?_⟩
      apply Classical.byContradiction
      intro hc
      exact h.cl u x hx hc hu
  intro x
  constructor
  · intro hx
    have hw : Pt (Ed nx) (fg f' x) x p := (hf.wy x hx).same fun a b hab => (ht.2.1 a b).1 hab.1
    refine ⟨⟨_, hw⟩, ?_⟩
    refine hs.back (fun u v huv => huv.lt) e _ _ (Nat.le_refl _) x hw fun y hy hr => ?_
    obtain ⟨k, hk⟩ := hr
    exact h.blocked hk (h.cov y hy) (hf.un x hx).1
  · rintro ⟨⟨k, hk⟩, ⟨j, hj⟩⟩
    have hx0 : fg f x = NW := by
      apply Classical.byContradiction
      intro hc
      exact h.blocked hj hc hp
    exact (hf.all k x (up hk hx0)).1
theorem Lst.flood {nx bk : List (List Nat)} {o a b f q f' : List Nat} {m p m' : Nat} (h : Lst nx b f m) (hs : Stl (Ed nx) nx.length o) (e : o = a ++ p :: b) (ht : Tnd nx bk) (hb : nx.length < NW) (hp : fg f p = NW) (hf : Flo bk f p q f')
    (hm1 : (1 < q.length ∨ Ed nx p p) → (m' = m ∨ m' ∈ q) ∧ m' ≤ m ∧ (∀ x, x ∈ q → m' ≤ x)) (hm2 : ¬ (1 < q.length ∨ Ed nx p p) → m' = m) : Lst nx (p :: b) f' m' := by
  have hbo := h.both hs e ht hp hf
  have hlen : bk.length = nx.length := ht.1
  have hinq : ∀ x, x ∈ q → fg f' x ≠ NW := fun x hx => by have := hf.lt x hx; omega
  have hgr : ∀ x, fg f x ≠ NW → fg f' x ≠ NW := fun x hx => by
    by_cases hq : x ∈ q
    · exact hinq x hq
    · rw [hf.fr x hq]; exact hx
  have hon : ∀ x, x ∈ q → (OnR (Ed nx) x ↔ (1 < q.length ∨ Ed nx p p)) := by
    intro x hx
    constructor
    · intro hr
      obtain ⟨y, hy, hyx⟩ := hr.out
      have hyq : y ∈ q := (hbo y).2 ⟨hyx.trans ((hbo x).1 hx).1, ((hbo x).1 hx).2.trans (Rch.one hy)⟩
      by_cases hl : 1 < q.length
      · exact .inl hl
      · right
        have hpq := hf.root
        match q, hl, hx, hyq, hpq with
        | [z], _, hx, hyq, hpq =>
          simp at hx hyq hpq
          subst hx; subst hyq; subst hpq
          exact hy
        | _ :: _ :: _, hl, _, _, _ => simp at hl
    · rintro (hl | hl)
      · have : ∃ y, y ∈ q ∧ y ≠ x := by
          match q, hl, hf.nd with
          | y1 :: y2 :: r, _, hnd =>
            by_cases h1 : y1 = x
            · refine ⟨y2, by simp, fun h2 => ?_⟩
              rw [h1, ← h2] at hnd; simp at hnd
            · exact ⟨y1, by simp, h1⟩
        obtain ⟨y, hy, hne⟩ := this
        have h1 : Rch (Ed nx) x y := ((hbo x).1 hx).1.trans ((hbo y).1 hy).2
        have h2 : Rch (Ed nx) y x := ((hbo y).1 hy).1.trans ((hbo x).1 hx).2
        obtain ⟨k, hk⟩ := h1
        cases k with
        | zero => exact absurd (show x = y from hk).symm hne
        | succ k =>
          obtain ⟨z, hz, hw⟩ := hk
          exact OnR.of hz (Rch.trans ⟨k, hw⟩ h2)
      · obtain ⟨k, hk⟩ := ((hbo x).1 hx).1
        obtain ⟨j, hj⟩ := ((hbo x).1 hx).2
        have := (hk.join (Pt.one hl)).join hj
        exact ⟨k + j, by rw [show k + j + 1 = k + 1 + j by omega]; exact this⟩
  refine ⟨by rw [hf.ln, hlen], fun x hx => ?_, fun u v huv hv => ?_, ?_, fun x hx hfx => ?_⟩
  · rcases List.mem_cons.1 hx with rfl | hx
    · exact hinq _ hf.root
    · exact hgr x (h.cov x hx)
  · by_cases hvq : v ∈ q
    · by_cases hu0 : fg f u = NW
      · have hw : Pt (Eu bk f) (fg f' v + 1) u p := ⟨v, ⟨(ht.2.1 u v).2 huv, hu0⟩, hf.wy v hvq⟩
        exact hinq u (hf.all _ u hw).1
      · exact hgr u hu0
    · rw [hf.fr v hvq] at hv
      exact hgr u (h.cl u v huv hv)
  · by_cases hc : 1 < q.length ∨ Ed nx p p
    · have hm := hm1 hc
      rcases hm.1 with rfl | hmq
      · exact h.lo
      · exact .inr ⟨by rw [← hlen]; exact (hf.un _ hmq).2, (hon _ hmq).2 hc⟩
    · rw [hm2 hc]; exact h.lo
  · by_cases hxq : x ∈ q
    · have hc := (hon x hxq).1 hx
      exact (hm1 hc).2.2 x hxq
    · rw [hf.fr x hxq] at hfx
      have := h.mn x hx hfx
      by_cases hc : 1 < q.length ∨ Ed nx p p
      · have := (hm1 hc).2.1; omega
      · have := hm2 hc; omega
theorem Lst.done {nx : List (List Nat)} {o f : List Nat} {m : Nat} (h : Lst nx o f m) (hs : Stl (Ed nx) nx.length o) (hb : nx.length < NW) :
    (m = NW ∧ ∀ x, ¬ OnR (Ed nx) x) ∨ (m < nx.length ∧ OnR (Ed nx) m ∧ ∀ x, OnR (Ed nx) x → m ≤ x) := by
  have hall : ∀ x, OnR (Ed nx) x → m ≤ x ∧ x < nx.length := fun x hx => by
    obtain ⟨y, hy, _⟩ := hx.out
    exact ⟨h.mn x hx (h.cov x ((hs.all x).2 hy.lt)), hy.lt⟩
  rcases h.lo with rfl | ⟨h1, h2⟩
  · refine .inl ⟨rfl, fun x hx => ?_⟩
    have := hall x hx
    omega
  · exact .inr ⟨h1, h2, fun x hx => (hall x hx).1⟩

end Go.Proofs.YtkgjmejpbklabaaGreat
namespace Go.Proofs.YtkgjmejpbklabaaGreat

/-- the shortest way back -/
def Cyc (E : Nat → Nat → Prop) (t L : Nat) : Prop := 0 < L ∧ Pt E L t t ∧ ∀ j, 0 < j → j < L → ¬ Pt E j t t
/-- of those that x waits for and that are k edges from t the least -/
def Nx (E : Nat → Nat → Prop) (t k x y : Nat) : Prop := E x y ∧ Pt E k y t ∧ ∀ z, E x z → Pt E k z t → y ≤ z
/-- of the ways of so many edges from x to t the least: its places, t at its end left out -/
def Wk (E : Nat → Nat → Prop) (t : Nat) : Nat → Nat → List Nat → Prop
  | 0, _, l => l = []
  | k + 1, x, l => ∃ l', l = x :: l' ∧ ∃ y, Nx E t k x y ∧ Wk E t k y l'
/-- the ring that is told -/
def RingIs (E : Nat → Nat → Prop) (l : List Nat) : Prop :=
  (l = [] ∧ ∀ x, ¬ OnR E x) ∨ ∃ t L, OnR E t ∧ (∀ x, OnR E x → t ≤ x) ∧ Cyc E t L ∧ Wk E t L t l

theorem Nx.one {E : Nat → Nat → Prop} {t k x y y' : Nat} (h : Nx E t k x y) (h' : Nx E t k x y') : y = y' := by
  have := h.2.2 y' h'.1 h'.2.1
  have := h'.2.2 y h.1 h.2.1
  omega
theorem Wk.one {E : Nat → Nat → Prop} {t : Nat} : ∀ {k x : Nat} {l l' : List Nat}, Wk E t k x l → Wk E t k x l' → l = l'
  | 0, _, l, l', h, h' => by rw [show l = [] from h, show l' = [] from h']
  | k + 1, x, l, l', ⟨m, e, y, hy, hw⟩, ⟨m', e', y', hy', hw'⟩ => by
    obtain rfl := hy.one hy'
    rw [e, e', Wk.one hw hw']
theorem Cyc.one {E : Nat → Nat → Prop} {t L L' : Nat} (h : Cyc E t L) (h' : Cyc E t L') : L = L' := by
  have h1 : ¬ L' < L := fun hc => h.2.2 L' h'.1 hc h'.2.1
  have h2 : ¬ L < L' := fun hc => h'.2.2 L h.1 hc h.2.1
  omega
/-- there is one alone -/
theorem RingIs.one {E : Nat → Nat → Prop} {l l' : List Nat} (h : RingIs E l) (h' : RingIs E l') : l = l' := by
  rcases h with ⟨h1, h2⟩ | ⟨t, L, h1, h2, h3, h4⟩
  · rcases h' with ⟨h5, _⟩ | ⟨t', L', h5, _⟩
    · rw [h1, h5]
    · exact absurd h5 (h2 t')
  · rcases h' with ⟨_, h6⟩ | ⟨t', L', h5, h6, h7, h8⟩
    · exact absurd h1 (h6 t)
    · have e1 := h2 t' h5
      have e2 := h6 t h1
      obtain rfl : t = t' := by omega
      obtain rfl := h3.one h7
      exact h4.one h8
theorem Wk.pos {E : Nat → Nat → Prop} {t k x : Nat} {l : List Nat} (h : Wk E t (k + 1) x l) : l ≠ [] := by
  obtain ⟨m, rfl, _⟩ := h; simp
theorem RingIs.nil_iff {E : Nat → Nat → Prop} {l : List Nat} (h : RingIs E l) : l = [] ↔ ∀ x, ¬ OnR E x := by
  rcases h with ⟨h1, h2⟩ | ⟨t, L, h1, h2, h3, h4⟩
  · exact ⟨fun _ => h2, fun _ => h1⟩
  · constructor
    · intro e
      obtain ⟨k, rfl⟩ : ∃ k, L = k + 1 := ⟨L - 1, by have := h3.1; omega⟩
      exact absurd e h4.pos
    · intro hn; exact absurd h1 (hn t)
theorem Wk.len {E : Nat → Nat → Prop} {t : Nat} : ∀ {k x : Nat} {l : List Nat}, Wk E t k x l → l.length = k
  | 0, _, l, h => by rw [show l = [] from h]; rfl
  | k + 1, x, l, ⟨m, e, y, _, hw⟩ => by rw [e, List.length_cons, Wk.len hw]
theorem Wk.lt {E : Nat → Nat → Prop} {n t : Nat} (hE : ∀ u v, E u v → u < n ∧ v < n) : ∀ {k x : Nat} {l : List Nat}, Wk E t k x l → ∀ y ∈ l, y < n
  | 0, _, l, h, y, hy => by rw [show l = [] from h] at hy; simp at hy
  | k + 1, x, l, ⟨m, e, z, hz, hw⟩, y, hy => by
    rw [e] at hy
    rcases List.mem_cons.1 hy with rfl | hy
    · exact (hE _ _ hz.1).1
    · exact Wk.lt hE hw y hy
theorem RingIs.lt {E : Nat → Nat → Prop} {n : Nat} {l : List Nat} (h : RingIs E l) (hE : ∀ u v, E u v → u < n ∧ v < n) : ∀ y ∈ l, y < n := by
  rcases h with ⟨h1, _⟩ | ⟨t, L, _, _, _, h4⟩
  · intro y hy; rw [h1] at hy; simp at hy
  · exact h4.lt hE

/-- the least number with a property -/
theorem least_of {p : Nat → Prop} : ∀ {n : Nat}, p n → ∃ m, m ≤ n ∧ p m ∧ ∀ j, j < m → ¬ p j := by
  intro n
  induction n using Nat.strongRecOn with
  | ind n ih =>
    intro h
    by_cases hc : ∃ j, j < n ∧ p j
    · obtain ⟨j, hj, hp⟩ := hc
      obtain ⟨m, h1, h2, h3⟩ := ih j hj hp
      exact ⟨m, by omega, h2, h3⟩
    · exact ⟨n, Nat.le_refl _, h, fun j hj hp => hc ⟨j, hj, hp⟩⟩
theorem OnR.cyc {E : Nat → Nat → Prop} {t : Nat} (h : OnR E t) : ∃ L, Cyc E t L := by
  obtain ⟨k, hk⟩ := h
  obtain ⟨m, _, h2, h3⟩ := least_of (p := fun j => Pt E (j + 1) t t) hk
  refine ⟨m + 1, by omega, h2, fun j h0 hj hp => h3 (j - 1) (by omega) ?_⟩
  rw [show j - 1 + 1 = j by omega]; exact hp

/-! ### The way that is gone, step by step -/
/-- rem edges are left from x to t, and no way is shorter -/
def Rat (E : Nat → Nat → Prop) (t rem x : Nat) : Prop := 0 < rem ∧ (∃ y, E x y ∧ Pt E (rem - 1) y t) ∧ ∀ z j, E x z → Pt E j z t → rem - 1 ≤ j
theorem Cyc.rat {E : Nat → Nat → Prop} {t L : Nat} (h : Cyc E t L) : Rat E t L t := by
  refine ⟨h.1, ?_, fun z j hz hw => ?_⟩
  · obtain ⟨k, rfl⟩ : ∃ k, L = k + 1 := ⟨L - 1, by have := h.1; omega⟩
    obtain ⟨y, hy, hw⟩ := h.2.1
    exact ⟨y, hy, hw⟩
  · have : ¬ j + 1 < L := fun hc => h.2.2 (j + 1) (by omega) hc ⟨z, hz, hw⟩
    omega
theorem Rat.next {E : Nat → Nat → Prop} {t rem x y : Nat} (h : Rat E t rem x) (hr : 1 < rem) (hy : Nx E t (rem - 1) x y) : Rat E t (rem - 1) y := by
  refine ⟨by omega, ?_, fun z j hz hw => ?_⟩
  · obtain ⟨k, e⟩ : ∃ k, rem - 1 = k + 1 := ⟨rem - 2, by omega⟩
    have := hy.2.1
    rw [e] at this ⊢
    obtain ⟨z, hz, hw⟩ := this
    exact ⟨z, hz, hw⟩
  · have := h.2.2 y (j + 1) hy.1 ⟨z, hz, hw⟩
    omega
theorem Rat.last {E : Nat → Nat → Prop} {t rem x y : Nat} (h : Rat E t rem x) (hy : Nx E t (rem - 1) x y) : y = t ↔ rem = 1 := by
  have := h.1
  constructor
  · rintro rfl
    have := h.2.2 y 0 hy.1 rfl
    omega
  · intro e
    have := hy.2.1
    rw [e] at this
    exact this
/-- what has been told is the beginning -/
def Told (E : Nat → Nat → Prop) (t L rem x : Nat) (out : List Nat) : Prop := ∀ l, Wk E t rem x l → Wk E t L t (out ++ l)
theorem Told.start {E : Nat → Nat → Prop} {t L : Nat} : Told E t L L t [] := fun _ h => h
theorem Told.step {E : Nat → Nat → Prop} {t L rem x y : Nat} {out : List Nat} (h : Told E t L rem x out) (hr : 0 < rem) (hy : Nx E t (rem - 1) x y) : Told E t L (rem - 1) y (out ++ [x]) := fun l hl => by
  have : Wk E t rem x (x :: l) := by
    obtain ⟨k, rfl⟩ : ∃ k, rem = k + 1 := ⟨rem - 1, by omega⟩
    exact ⟨l, rfl, y, hy, hl⟩
  have := h _ this
  simpa using this
theorem Told.done {E : Nat → Nat → Prop} {t L x : Nat} {out : List Nat} (h : Told E t L 0 x out) : Wk E t L t out := by
  have := h [] rfl
  simpa using this

/-- f tells how far it is to t -/
def Dis (E : Nat → Nat → Prop) (t : Nat) (f : List Nat) : Prop := ∀ x, (∀ k, Pt E k x t → fg f x ≤ k ∧ fg f x < NW) ∧ (fg f x ≠ NW → Pt E (fg f x) x t)
theorem Flo.dis {nx bk : List (List Nat)} {q f : List Nat} {t : Nat} (ht : Tnd nx bk) (hb : nx.length < NW) (h : Flo bk (List.replicate nx.length NW) t q f) : Dis (Ed nx) t f := by
  have iff : ∀ a b, Eu bk (List.replicate nx.length NW) a b ↔ Ed nx a b := fun a b => ⟨fun h => (ht.2.1 a b).1 h.1, fun h => ⟨(ht.2.1 a b).2 h, fg_rep _ _⟩⟩
  intro x
  constructor
  · intro k hk
    have h1 := h.all k x (hk.same fun a b => (iff a b).2)
    have h2 := h.lt x h1.1
    rw [ht.1] at h2
    exact ⟨h1.2, by omega⟩
  · intro hx
    have : x ∈ q := by
      apply Classical.byContradiction
      intro hc
      exact hx (by rw [h.fr x hc]; exact fg_rep _ _)
    exact (h.wy x this).same fun a b => (iff a b).1
/-- of those that x waits for the nearest, the least of these -/
theorem Rat.near {nx : List (List Nat)} {f : List Nat} {t rem x y : Nat} (hd : Dis (Ed nx) t f) (h : Rat (Ed nx) t rem x) (hy : Ed nx x y) (hm : ∀ z, Ed nx x z → fg f y ≤ fg f z) (hf : ∀ z, Ed nx x z → fg f z = fg f y → y ≤ z) :
    Nx (Ed nx) t (rem - 1) x y ∧ fg f y = rem - 1 := by
  obtain ⟨h0, ⟨y0, h1, h2⟩, h3⟩ := h
  have h4 := (hd y0).1 _ h2
  have h5 := hm y0 h1
  have h7 : fg f y ≠ NW := by have := h4.2; omega
  have h8 := (hd y).2 h7
  have h9 := h3 y _ hy h8
  have h10 : fg f y = rem - 1 := by omega
  refine ⟨⟨hy, by rw [← h10]; exact h8, fun z hz hw => ?_⟩, h10⟩
  have h11 := (hd z).1 _ hw
  have h12 := hm z hz
  exact hf z hz (by omega)

/-! ### Heights -/
/-- how many edges the longest chain has from each place -/
def Hgt (E : Nat → Nat → Prop) (n : Nat) (h : Nat → Nat) : Prop := ∀ x, x < n → (∀ y, E x y → h y + 1 ≤ h x) ∧ (h x = 0 ∨ ∃ y, E x y ∧ h x = h y + 1)
theorem Hgt.le {E : Nat → Nat → Prop} {n : Nat} {h h' : Nat → Nat} (hE : ∀ u v, E u v → v < n) (h1 : Hgt E n h) (h2 : Hgt E n h') : ∀ (k x : Nat), x < n → h x = k → h x ≤ h' x
  | 0, x, _, e => by omega
  | k + 1, x, hx, e => by
    rcases (h1 x hx).2 with h3 | ⟨y, h3, h4⟩
    · omega
    · have := Hgt.le hE h1 h2 k y (hE _ _ h3) (by omega)
      have := (h2 x hx).1 y h3
      omega
theorem Hgt.one {E : Nat → Nat → Prop} {n : Nat} {h h' : Nat → Nat} (hE : ∀ u v, E u v → v < n) (h1 : Hgt E n h) (h2 : Hgt E n h') (x : Nat) (hx : x < n) : h x = h' x := by
  have := Hgt.le hE h1 h2 _ x hx rfl
  have := Hgt.le hE h2 h1 _ x hx rfl
  omega

/-- those of a are told -/
structure Hok (E : Nat → Nat → Prop) (a : List Nat) (h : Nat → Nat) : Prop where
  low : ∀ x, x ∈ a → h x < a.length
  dn : ∀ x y, x ∈ a → E x y → y ∈ a ∧ h y + 1 ≤ h x
  up : ∀ x, x ∈ a → h x = 0 ∨ ∃ y, E x y ∧ h x = h y + 1
theorem Hok.start {E : Nat → Nat → Prop} {h : Nat → Nat} : Hok E [] h := ⟨fun x h => by simp at h, fun x y h => by simp at h, fun x h => by simp at h⟩
/-- the greatest of a list, one more than each -/
def hmx (h : Nat → Nat) (l : List Nat) : Nat := l.foldl (fun m y => max m (1 + h y)) 0
theorem hmx_snoc (h : Nat → Nat) (l : List Nat) (y : Nat) : hmx h (l ++ [y]) = max (hmx h l) (1 + h y) := by simp [hmx]
theorem fold_ge (h : Nat → Nat) : ∀ (l : List Nat) (m : Nat), m ≤ l.foldl (fun m y => max m (1 + h y)) m
  | [], m => Nat.le_refl _
  | y :: l, m => by
    have := fold_ge h l (max m (1 + h y))
    simp only [List.foldl_cons]; omega
theorem fold_mem (h : Nat → Nat) : ∀ (l : List Nat) (m : Nat), ∀ y ∈ l, h y + 1 ≤ l.foldl (fun m y => max m (1 + h y)) m
  | [], m, y, hy => by simp at hy
  | z :: l, m, y, hy => by
    simp only [List.foldl_cons]
    rcases List.mem_cons.1 hy with rfl | hy
    · have := fold_ge h l (max m (1 + h y)); omega
    · exact fold_mem h l _ y hy
theorem fold_is (h : Nat → Nat) : ∀ (l : List Nat) (m : Nat), l.foldl (fun m y => max m (1 + h y)) m = m ∨ ∃ y, y ∈ l ∧ l.foldl (fun m y => max m (1 + h y)) m = h y + 1
  | [], m => .inl rfl
  | z :: l, m => by
    simp only [List.foldl_cons]
    rcases fold_is h l (max m (1 + h z)) with h1 | ⟨y, h1, h2⟩
    · by_cases hc : m ≤ 1 + h z
      · exact .inr ⟨z, by simp, by omega⟩
      · exact .inl (by omega)
    · exact .inr ⟨y, by simp [h1], h2⟩
theorem hmx_congr {h h' : Nat → Nat} {l : List Nat} (e : ∀ y ∈ l, h y = h' y) : hmx h l = hmx h' l := by
  unfold hmx
  suffices hs : ∀ (l : List Nat) (m : Nat), (∀ y ∈ l, h y = h' y) → l.foldl (fun m y => max m (1 + h y)) m = l.foldl (fun m y => max m (1 + h' y)) m from hs l 0 e
  intro l
  induction l with
  | nil => intro m _; rfl
  | cons z l ih =>
    intro m e
    simp only [List.foldl_cons]
    rw [e z (by simp)]
    exact ih _ fun y hy => e y (by simp [hy])
theorem Hok.step {nx : List (List Nat)} {a : List Nat} {h : Nat → Nat} {p : Nat} (ho : Hok (Ed nx) a h) (hp : p ∉ a) (hd : ∀ y, Ed nx p y → y ∈ a) : Hok (Ed nx) (a ++ [p]) (fun x => if x = p then hmx h (nx.getD p []) else h x) := by
  have hne : ∀ x, x ∈ a → x ≠ p := fun x hx e => hp (e ▸ hx)
  refine ⟨fun x hx => ?_, fun x y hx hy => ?_, fun x hx => ?_⟩
  · rcases List.mem_append.1 hx with hx | hx
    · simp only [hne x hx, if_false, List.length_append, List.length_singleton]
      have := ho.low x hx; omega
    · simp at hx; subst hx
      simp only [if_true, List.length_append, List.length_singleton]
      rcases fold_is h (nx.getD x []) 0 with h1 | ⟨y, h1, h2⟩
      · unfold hmx; omega
      · have := ho.low y (hd y h1)
        unfold hmx; omega
  · rcases List.mem_append.1 hx with hx | hx
    · obtain ⟨h1, h2⟩ := ho.dn x y hx hy
      simp only [hne x hx, hne y h1, if_false]
      exact ⟨by simp [h1], h2⟩
    · simp at hx; subst hx
      have h1 := hd y hy
      simp only [if_true, hne y h1, if_false]
      exact ⟨by simp [h1], fold_mem h _ 0 y hy⟩
  · rcases List.mem_append.1 hx with hx | hx
    · rcases ho.up x hx with h1 | ⟨y, h1, h2⟩
      · left; simp only [hne x hx, if_false]; exact h1
      · right
        refine ⟨y, h1, ?_⟩
        simp only [hne x hx, hne y (ho.dn x y hx h1).1, if_false]; exact h2
    · simp at hx; subst hx
      simp only [if_true]
      rcases fold_is h (nx.getD x []) 0 with h1 | ⟨y, h1, h2⟩
      · exact .inl h1
      · right
        refine ⟨y, h1, ?_⟩
        rw [if_neg (hne y (hd y h1))]; exact h2
theorem Hok.done {E : Nat → Nat → Prop} {n : Nat} {o : List Nat} {h : Nat → Nat} (ho : Hok E o h) (hs : Stl E n o) : Hgt E n h := fun x hx =>
  ⟨fun y hy => (ho.dn x y ((hs.all x).2 hx) hy).2, ho.up x ((hs.all x).2 hx)⟩

end Go.Proofs.YtkgjmejpbklabaaGreat
namespace Go.Proofs.YtkgjmejpbklabaaGreat

/-- the graph of edges (from, to): the tickets that stand in them, rising; of each place those that it waits for, rising -/
structure GIs (es : List (Int × Int)) (ts : List Int) (nx : List (List Nat)) : Prop where
  up : ts.Pairwise (· < ·)
  mem : ∀ x, x ∈ ts ↔ ∃ e ∈ es, x = e.1 ∨ x = e.2
  len : nx.length = ts.length
  row : ∀ i, (nx.getD i []).Pairwise (· < ·)
  ed : ∀ i v, v ∈ nx.getD i [] ↔ ∃ e ∈ es, ts[i]? = some e.1 ∧ ts[v]? = some e.2

theorem up_at {ts : List Int} (h : ts.Pairwise (· < ·)) {i j : Nat} {x : Int} (hi : ts[i]? = some x) (hj : ts[j]? = some x) : i = j := by
  obtain ⟨h1, e1⟩ := List.getElem?_eq_some_iff.1 hi
  obtain ⟨h2, e2⟩ := List.getElem?_eq_some_iff.1 hj
  have hp := List.pairwise_iff_getElem.1 h
  by_cases hc : i < j
  · have := hp i j h1 h2 hc; omega
  · by_cases hc2 : j < i
    · have := hp j i h2 h1 hc2; omega
    · omega
/-- two rising lists with the same elements are the same -/
theorem up_one : ∀ {l m : List Int}, l.Pairwise (· < ·) → m.Pairwise (· < ·) → (∀ x, x ∈ l ↔ x ∈ m) → l = m
  | [], [], _, _, _ => rfl
  | [], y :: m, _, _, h => by have := (h y).2 (by simp); simp at this
  | x :: l, [], _, _, h => by have := (h x).1 (by simp); simp at this
  | x :: l, y :: m, hl, hm, h => by
    have hl' := List.pairwise_cons.1 hl
    have hm' := List.pairwise_cons.1 hm
    have hxy : x = y := by
      have h1 := (h x).1 (by simp)
      have h2 := (h y).2 (by simp)
      rcases List.mem_cons.1 h1 with e | h1
      · exact e
      · rcases List.mem_cons.1 h2 with e | h2
        · exact e.symm
        · have := hm'.1 x h1
          have := hl'.1 y h2
          omega
    subst hxy
    rw [up_one hl'.2 hm'.2 fun z => ?_]
    constructor
    · intro hz
      rcases List.mem_cons.1 ((h z).1 (by simp [hz])) with e | h2
      · have := hl'.1 z hz; omega
      · exact h2
    · intro hz
      rcases List.mem_cons.1 ((h z).2 (by simp [hz])) with e | h2
      · have := hm'.1 z hz; omega
      · exact h2

/-- j of the edges have been noted, in whatever order -/
structure Gri (es : List (Int × Int)) (ts : List Int) (j : Nat) (bk : List (List Nat)) : Prop where
  len : bk.length = ts.length
  ed : ∀ i v, v ∈ bk.getD i [] ↔ ∃ e ∈ es.take j, ts[i]? = some e.1 ∧ ts[v]? = some e.2
  few : ∀ i, (bk.getD i []).length ≤ j
theorem Gri.start (es : List (Int × Int)) (ts : List Int) : Gri es ts 0 (List.replicate ts.length []) := by
  have e : ∀ v, (List.replicate ts.length ([] : List Nat)).getD v [] = [] := fun v => by
    by_cases h : v < ts.length <;> simp [List.getD, h]
  refine ⟨by simp, fun i v => ?_, fun i => ?_⟩
  · rw [e]; simp
  · rw [e]; simp
theorem Gri.put {es : List (Int × Int)} {ts : List Int} {j a b : Nat} {bk : List (List Nat)} {e : Int × Int} (h : Gri es ts j bk) (hup : ts.Pairwise (· < ·)) (hj : es[j]? = some e) (ha : ts[a]? = some e.1) (hb : ts[b]? = some e.2) : Gri es ts (j + 1) (bk.set a (bk.getD a [] ++ [b])) := by
  have hal : a < bk.length := by rw [h.len]; exact (List.getElem?_eq_some_iff.1 ha).1
  have ht : es.take (j + 1) = es.take j ++ [e] := by rw [List.take_add_one, hj]; rfl
  refine ⟨by simp [h.len], fun i v => ?_, fun i => ?_⟩
  · rw [ht, getD_set]
    by_cases hi : a = i
    · subst hi
      rw [if_pos ⟨rfl, hal⟩, List.mem_append, h.ed a v]
      constructor
      · rintro (⟨x, hx, h1, h2⟩ | hv)
        · exact ⟨x, by simp [hx], h1, h2⟩
        · simp at hv; subst hv
          exact ⟨e, by simp, ha, hb⟩
      · rintro ⟨x, hx, h1, h2⟩
        rcases List.mem_append.1 hx with hx | hx
        · exact .inl ⟨x, hx, h1, h2⟩
        · simp at hx; subst hx
          exact .inr (by simp [up_at hup h2 hb])
    · rw [if_neg (fun hc => hi hc.1), h.ed i v]
      constructor
      · rintro ⟨x, hx, h1, h2⟩; exact ⟨x, by simp [hx], h1, h2⟩
      · rintro ⟨x, hx, h1, h2⟩
        rcases List.mem_append.1 hx with hx | hx
        · exact ⟨x, hx, h1, h2⟩
        · simp at hx; subst hx
          exact absurd (up_at hup ha h1) hi
  · rw [getD_set]
    have h1 := h.few a
    have h2 := h.few i
    by_cases hi : a = i ∧ a < bk.length
    · rw [if_pos hi]; simp; simpa using h1
    · rw [if_neg hi]; omega
theorem Gri.lt {es : List (Int × Int)} {ts : List Int} {j : Nat} {bk : List (List Nat)} (h : Gri es ts j bk) {i v : Nat} (hv : v ∈ bk.getD i []) : v < ts.length := by
  obtain ⟨e, _, _, h2⟩ := (h.ed i v).1 hv
  exact (List.getElem?_eq_some_iff.1 h2).1

/-- all have been noted; the rows below i are rising -/
structure Grs (es : List (Int × Int)) (ts : List Int) (i : Nat) (bk : List (List Nat)) : Prop where
  len : bk.length = ts.length
  ed : ∀ i v, v ∈ bk.getD i [] ↔ ∃ e ∈ es, ts[i]? = some e.1 ∧ ts[v]? = some e.2
  few : ∀ i, (bk.getD i []).length ≤ es.length
  up : ∀ k, k < i → (bk.getD k []).Pairwise (· < ·)
theorem Gri.done {es : List (Int × Int)} {ts : List Int} {bk : List (List Nat)} (h : Gri es ts es.length bk) : Grs es ts 0 bk := ⟨h.len, fun i v => by rw [h.ed i v, List.take_length], h.few, fun k hk => by omega⟩
theorem Grs.put {es : List (Int × Int)} {ts : List Int} {i : Nat} {bk : List (List Nat)} (h : Grs es ts i bk) (hi : i < ts.length) {row : List Nat} (hu : row.Pairwise (· < ·)) (hm : ∀ v, v ∈ row ↔ v ∈ bk.getD i []) (hl : row.length ≤ (bk.getD i []).length) : Grs es ts (i + 1) (bk.set i row) := by
  have hil : i < bk.length := by rw [h.len]; exact hi
  refine ⟨by simp [h.len], fun k v => ?_, fun k => ?_, fun k hk => ?_⟩
  · rw [getD_set]
    by_cases hc : i = k
    · subst hc; rw [if_pos ⟨rfl, hil⟩, hm v, h.ed i v]
    · rw [if_neg (fun hx => hc hx.1), h.ed k v]
  · rw [getD_set]
    have h1 := h.few i
    have h2 := h.few k
    by_cases hc : i = k ∧ i < bk.length
    · rw [if_pos hc]; omega
    · rw [if_neg hc]; exact h2
  · rw [getD_set]
    by_cases hc : i = k
    · rw [if_pos ⟨hc, hil⟩]; exact hu
    · rw [if_neg (fun hx => hc hx.1)]; exact h.up k (by omega)
theorem Grs.done {es : List (Int × Int)} {ts : List Int} {bk : List (List Nat)} (h : Grs es ts ts.length bk) (hup : ts.Pairwise (· < ·)) (hm : ∀ x, x ∈ ts ↔ ∃ e ∈ es, x = e.1 ∨ x = e.2) : GIs es ts bk where
  up := hup
  mem := hm
  len := h.len
  row := fun i => by
    by_cases hi : i < ts.length
    · exact h.up i hi
    · have : bk.getD i [] = [] := by
        rw [List.getD, List.getElem?_eq_none (by rw [h.len]; omega)]; rfl
      rw [this]; simp
  ed := h.ed

/-- both sides of all edges -/
def ends (es : List (Int × Int)) : List Int := es.flatMap fun e => [e.1, e.2]
theorem ends_snoc (es : List (Int × Int)) (e : Int × Int) : ends (es ++ [e]) = ends es ++ [e.1, e.2] := by simp [ends]
theorem ends_length (es : List (Int × Int)) : (ends es).length = 2 * es.length := by
  induction es with
  | nil => rfl
  | cons e es ih => simp only [ends, List.flatMap_cons, List.length_append, List.length_cons, List.length_nil] at ih ⊢; omega
theorem ends_mem (es : List (Int × Int)) (x : Int) : x ∈ ends es ↔ ∃ e ∈ es, x = e.1 ∨ x = e.2 := by
  simp [ends]

theorem GIs.lt {es : List (Int × Int)} {ts : List Int} {nx : List (List Nat)} (h : GIs es ts nx) {u v : Nat} (hv : Ed nx u v) : u < ts.length ∧ v < ts.length := by
  obtain ⟨e, _, h1, h2⟩ := (h.ed u v).1 hv
  exact ⟨(List.getElem?_eq_some_iff.1 h1).1, (List.getElem?_eq_some_iff.1 h2).1⟩
/-- there is one alone -/
theorem GIs.one {es : List (Int × Int)} {ts ts' : List Int} {nx nx' : List (List Nat)} (h : GIs es ts nx) (h' : GIs es ts' nx') : ts = ts' ∧ ∀ u v, Ed nx u v ↔ Ed nx' u v := by
  have e : ts = ts' := up_one h.up h'.up fun x => by rw [h.mem, h'.mem]
  subst e
  exact ⟨rfl, fun u v => by unfold Ed; rw [h.ed, h'.ed]⟩

end Go.Proofs.YtkgjmejpbklabaaGreat
