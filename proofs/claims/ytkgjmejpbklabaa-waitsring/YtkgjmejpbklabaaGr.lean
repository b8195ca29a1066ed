/-
  Layer 15, plain mathematics of edges: what the ring is that is told, and what the heights are.
-/
import Derived.Test.YtkgjmejpbklabaaGf
namespace Go.Proofs.Ytkgjmejpbklabaa

/-- the shortest way back -/
def Cyc (E : Nat → Nat → Prop) (t L : Nat) : Prop := 0 < L ∧ Pt E L t t ∧ ∀ j, 0 < j → j < L → ¬ Pt E j t t
/-- of those that x waits for and that are k edges from t the least -/
def Nx (E : Nat → Nat → Prop) (t k x y : Nat) : Prop := E x y ∧ Pt E k y t ∧ ∀ z, E x z → Pt E k z t → y ≤ z
/-- of the ways of so many edges from x to t the least: its places, t at its end left out -/
def Wk (E : Nat → Nat → Prop) (t : Nat) : Nat → Nat → List Nat → Prop
  | 0, _, l => l = []
  | k + 1, x, l => ∃ l', l = x :: l' ∧ ∃ y, Nx E t k x y ∧ Wk E t k y l'
/-- the ring that is told -/
def RingIs (E : Nat → Nat → Prop) (l : List Nat) : Prop :=
  (l = [] ∧ ∀ x, ¬ OnR E x) ∨ ∃ t L, OnR E t ∧ (∀ x, OnR E x → t ≤ x) ∧ Cyc E t L ∧ Wk E t L t l

theorem Nx.one {E : Nat → Nat → Prop} {t k x y y' : Nat} (h : Nx E t k x y) (h' : Nx E t k x y') : y = y' := by
  have := h.2.2 y' h'.1 h'.2.1
  have := h'.2.2 y h.1 h.2.1
  omega
theorem Wk.one {E : Nat → Nat → Prop} {t : Nat} : ∀ {k x : Nat} {l l' : List Nat}, Wk E t k x l → Wk E t k x l' → l = l'
  | 0, _, l, l', h, h' => by rw [show l = [] from h, show l' = [] from h']
  | k + 1, x, l, l', ⟨m, e, y, hy, hw⟩, ⟨m', e', y', hy', hw'⟩ => by
    obtain rfl := hy.one hy'
    rw [e, e', Wk.one hw hw']
theorem Cyc.one {E : Nat → Nat → Prop} {t L L' : Nat} (h : Cyc E t L) (h' : Cyc E t L') : L = L' := by
  have h1 : ¬ L' < L := fun hc => h.2.2 L' h'.1 hc h'.2.1
  have h2 : ¬ L < L' := fun hc => h'.2.2 L h.1 hc h.2.1
  omega
/-- there is one alone -/
theorem RingIs.one {E : Nat → Nat → Prop} {l l' : List Nat} (h : RingIs E l) (h' : RingIs E l') : l = l' := by
  rcases h with ⟨h1, h2⟩ | ⟨t, L, h1, h2, h3, h4⟩
  · rcases h' with ⟨h5, _⟩ | ⟨t', L', h5, _⟩
    · rw [h1, h5]
    · exact absurd h5 (h2 t')
  · rcases h' with ⟨_, h6⟩ | ⟨t', L', h5, h6, h7, h8⟩
    · exact absurd h1 (h6 t)
    · have e1 := h2 t' h5
      have e2 := h6 t h1
      obtain rfl : t = t' := by omega
      obtain rfl := h3.one h7
      exact h4.one h8
theorem Wk.pos {E : Nat → Nat → Prop} {t k x : Nat} {l : List Nat} (h : Wk E t (k + 1) x l) : l ≠ [] := by
  obtain ⟨m, rfl, _⟩ := h; simp
theorem RingIs.nil_iff {E : Nat → Nat → Prop} {l : List Nat} (h : RingIs E l) : l = [] ↔ ∀ x, ¬ OnR E x := by
  rcases h with ⟨h1, h2⟩ | ⟨t, L, h1, h2, h3, h4⟩
  · exact ⟨fun _ => h2, fun _ => h1⟩
  · constructor
    · intro e
      obtain ⟨k, rfl⟩ : ∃ k, L = k + 1 := ⟨L - 1, by have := h3.1; omega⟩
      exact absurd e h4.pos
    · intro hn; exact absurd h1 (hn t)
theorem Wk.len {E : Nat → Nat → Prop} {t : Nat} : ∀ {k x : Nat} {l : List Nat}, Wk E t k x l → l.length = k
  | 0, _, l, h => by rw [show l = [] from h]; rfl
  | k + 1, x, l, ⟨m, e, y, _, hw⟩ => by rw [e, List.length_cons, Wk.len hw]
theorem Wk.lt {E : Nat → Nat → Prop} {n t : Nat} (hE : ∀ u v, E u v → u < n ∧ v < n) : ∀ {k x : Nat} {l : List Nat}, Wk E t k x l → ∀ y ∈ l, y < n
  | 0, _, l, h, y, hy => by rw [show l = [] from h] at hy; simp at hy
  | k + 1, x, l, ⟨m, e, z, hz, hw⟩, y, hy => by
    rw [e] at hy
    rcases List.mem_cons.1 hy with rfl | hy
    · exact (hE _ _ hz.1).1
    · exact Wk.lt hE hw y hy
theorem RingIs.lt {E : Nat → Nat → Prop} {n : Nat} {l : List Nat} (h : RingIs E l) (hE : ∀ u v, E u v → u < n ∧ v < n) : ∀ y ∈ l, y < n := by
  rcases h with ⟨h1, _⟩ | ⟨t, L, _, _, _, h4⟩
  · intro y hy; rw [h1] at hy; simp at hy
  · exact h4.lt hE

/-- the least number with a property -/
theorem least_of {p : Nat → Prop} : ∀ {n : Nat}, p n → ∃ m, m ≤ n ∧ p m ∧ ∀ j, j < m → ¬ p j := by
  intro n
  induction n using Nat.strongRecOn with
  | ind n ih =>
    intro h
    by_cases hc : ∃ j, j < n ∧ p j
    · obtain ⟨j, hj, hp⟩ := hc
      obtain ⟨m, h1, h2, h3⟩ := ih j hj hp
      exact ⟨m, by omega, h2, h3⟩
    · exact ⟨n, Nat.le_refl _, h, fun j hj hp => hc ⟨j, hj, hp⟩⟩
theorem OnR.cyc {E : Nat → Nat → Prop} {t : Nat} (h : OnR E t) : ∃ L, Cyc E t L := by
  obtain ⟨k, hk⟩ := h
  obtain ⟨m, _, h2, h3⟩ := least_of (p := fun j => Pt E (j + 1) t t) hk
  refine ⟨m + 1, by omega, h2, fun j h0 hj hp => h3 (j - 1) (by omega) ?_⟩
  rw [show j - 1 + 1 = j by omega]; exact hp

/-! ### The way that is gone, step by step -/
/-- rem edges are left from x to t, and no way is shorter -/
def Rat (E : Nat → Nat → Prop) (t rem x : Nat) : Prop := 0 < rem ∧ (∃ y, E x y ∧ Pt E (rem - 1) y t) ∧ ∀ z j, E x z → Pt E j z t → rem - 1 ≤ j
theorem Cyc.rat {E : Nat → Nat → Prop} {t L : Nat} (h : Cyc E t L) : Rat E t L t := by
  refine ⟨h.1, ?_, fun z j hz hw => ?_⟩
  · obtain ⟨k, rfl⟩ : ∃ k, L = k + 1 := ⟨L - 1, by have := h.1; omega⟩
    obtain ⟨y, hy, hw⟩ := h.2.1
    exact ⟨y, hy, hw⟩
  · have : ¬ j + 1 < L := fun hc => h.2.2 (j + 1) (by omega) hc ⟨z, hz, hw⟩
    omega
theorem Rat.next {E : Nat → Nat → Prop} {t rem x y : Nat} (h : Rat E t rem x) (hr : 1 < rem) (hy : Nx E t (rem - 1) x y) : Rat E t (rem - 1) y := by
  refine ⟨by omega, ?_, fun z j hz hw => ?_⟩
  · obtain ⟨k, e⟩ : ∃ k, rem - 1 = k + 1 := ⟨rem - 2, by omega⟩
    have := hy.2.1
    rw [e] at this ⊢
    obtain ⟨z, hz, hw⟩ := this
    exact ⟨z, hz, hw⟩
  · have := h.2.2 y (j + 1) hy.1 ⟨z, hz, hw⟩
    omega
theorem Rat.last {E : Nat → Nat → Prop} {t rem x y : Nat} (h : Rat E t rem x) (hy : Nx E t (rem - 1) x y) : y = t ↔ rem = 1 := by
  have := h.1
  constructor
  · rintro rfl
    have := h.2.2 y 0 hy.1 rfl
    omega
  · intro e
    have := hy.2.1
    rw [e] at this
    exact this
/-- what has been told is the beginning -/
def Told (E : Nat → Nat → Prop) (t L rem x : Nat) (out : List Nat) : Prop := ∀ l, Wk E t rem x l → Wk E t L t (out ++ l)
theorem Told.start {E : Nat → Nat → Prop} {t L : Nat} : Told E t L L t [] := fun _ h => h
theorem Told.step {E : Nat → Nat → Prop} {t L rem x y : Nat} {out : List Nat} (h : Told E t L rem x out) (hr : 0 < rem) (hy : Nx E t (rem - 1) x y) : Told E t L (rem - 1) y (out ++ [x]) := fun l hl => by
  have : Wk E t rem x (x :: l) := by
    obtain ⟨k, rfl⟩ : ∃ k, rem = k + 1 := ⟨rem - 1, by omega⟩
    exact ⟨l, rfl, y, hy, hl⟩
  have := h _ this
  simpa using this
theorem Told.done {E : Nat → Nat → Prop} {t L x : Nat} {out : List Nat} (h : Told E t L 0 x out) : Wk E t L t out := by
  have := h [] rfl
  simpa using this

/-- f tells how far it is to t -/
def Dis (E : Nat → Nat → Prop) (t : Nat) (f : List Nat) : Prop := ∀ x, (∀ k, Pt E k x t → fg f x ≤ k ∧ fg f x < NW) ∧ (fg f x ≠ NW → Pt E (fg f x) x t)
theorem Flo.dis {nx bk : List (List Nat)} {q f : List Nat} {t : Nat} (ht : Tnd nx bk) (hb : nx.length < NW) (h : Flo bk (List.replicate nx.length NW) t q f) : Dis (Ed nx) t f := by
  have iff : ∀ a b, Eu bk (List.replicate nx.length NW) a b ↔ Ed nx a b := fun a b => ⟨fun h => (ht.2.1 a b).1 h.1, fun h => ⟨(ht.2.1 a b).2 h, fg_rep _ _⟩⟩
  intro x
  constructor
  · intro k hk
    have h1 := h.all k x (hk.same fun a b => (iff a b).2)
    have h2 := h.lt x h1.1
    rw [ht.1] at h2
    exact ⟨h1.2, by omega⟩
  · intro hx
    have : x ∈ q := by
      apply Classical.byContradiction
      intro hc
      exact hx (by rw [h.fr x hc]; exact fg_rep _ _)
    exact (h.wy x this).same fun a b => (iff a b).1
/-- of those that x waits for the nearest, the least of these -/
theorem Rat.near {nx : List (List Nat)} {f : List Nat} {t rem x y : Nat} (hd : Dis (Ed nx) t f) (h : Rat (Ed nx) t rem x) (hy : Ed nx x y) (hm : ∀ z, Ed nx x z → fg f y ≤ fg f z) (hf : ∀ z, Ed nx x z → fg f z = fg f y → y ≤ z) :
    Nx (Ed nx) t (rem - 1) x y ∧ fg f y = rem - 1 := by
  obtain ⟨h0, ⟨y0, h1, h2⟩, h3⟩ := h
  have h4 := (hd y0).1 _ h2
  have h5 := hm y0 h1
  have h7 : fg f y ≠ NW := by have := h4.2; omega
  have h8 := (hd y).2 h7
  have h9 := h3 y _ hy h8
  have h10 : fg f y = rem - 1 := by omega
  refine ⟨⟨hy, by rw [← h10]; exact h8, fun z hz hw => ?_⟩, h10⟩
  have h11 := (hd z).1 _ hw
  have h12 := hm z hz
  exact hf z hz (by omega)

/-! ### Heights -/
/-- how many edges the longest chain has from each place -/
def Hgt (E : Nat → Nat → Prop) (n : Nat) (h : Nat → Nat) : Prop := ∀ x, x < n → (∀ y, E x y → h y + 1 ≤ h x) ∧ (h x = 0 ∨ ∃ y, E x y ∧ h x = h y + 1)
theorem Hgt.le {E : Nat → Nat → Prop} {n : Nat} {h h' : Nat → Nat} (hE : ∀ u v, E u v → v < n) (h1 : Hgt E n h) (h2 : Hgt E n h') : ∀ (k x : Nat), x < n → h x = k → h x ≤ h' x
  | 0, x, _, e => by omega
  | k + 1, x, hx, e => by
    rcases (h1 x hx).2 with h3 | ⟨y, h3, h4⟩
    · omega
    · have := Hgt.le hE h1 h2 k y (hE _ _ h3) (by omega)
      have := (h2 x hx).1 y h3
      omega
theorem Hgt.one {E : Nat → Nat → Prop} {n : Nat} {h h' : Nat → Nat} (hE : ∀ u v, E u v → v < n) (h1 : Hgt E n h) (h2 : Hgt E n h') (x : Nat) (hx : x < n) : h x = h' x := by
  have := Hgt.le hE h1 h2 _ x hx rfl
  have := Hgt.le hE h2 h1 _ x hx rfl
  omega

/-- those of a are told -/
structure Hok (E : Nat → Nat → Prop) (a : List Nat) (h : Nat → Nat) : Prop where
  low : ∀ x, x ∈ a → h x < a.length
  dn : ∀ x y, x ∈ a → E x y → y ∈ a ∧ h y + 1 ≤ h x
  up : ∀ x, x ∈ a → h x = 0 ∨ ∃ y, E x y ∧ h x = h y + 1
theorem Hok.start {E : Nat → Nat → Prop} {h : Nat → Nat} : Hok E [] h := ⟨fun x h => by simp at h, fun x y h => by simp at h, fun x h => by simp at h⟩
/-- the greatest of a list, one more than each -/
def hmx (h : Nat → Nat) (l : List Nat) : Nat := l.foldl (fun m y => max m (1 + h y)) 0
theorem hmx_snoc (h : Nat → Nat) (l : List Nat) (y : Nat) : hmx h (l ++ [y]) = max (hmx h l) (1 + h y) := by simp [hmx]
theorem fold_ge (h : Nat → Nat) : ∀ (l : List Nat) (m : Nat), m ≤ l.foldl (fun m y => max m (1 + h y)) m
  | [], m => Nat.le_refl _
  | y :: l, m => by
    have := fold_ge h l (max m (1 + h y))
    simp only [List.foldl_cons]; omega
theorem fold_mem (h : Nat → Nat) : ∀ (l : List Nat) (m : Nat), ∀ y ∈ l, h y + 1 ≤ l.foldl (fun m y => max m (1 + h y)) m
  | [], m, y, hy => by simp at hy
  | z :: l, m, y, hy => by
    simp only [List.foldl_cons]
    rcases List.mem_cons.1 hy with rfl | hy
    · have := fold_ge h l (max m (1 + h y)); omega
    · exact fold_mem h l _ y hy
theorem fold_is (h : Nat → Nat) : ∀ (l : List Nat) (m : Nat), l.foldl (fun m y => max m (1 + h y)) m = m ∨ ∃ y, y ∈ l ∧ l.foldl (fun m y => max m (1 + h y)) m = h y + 1
  | [], m => .inl rfl
  | z :: l, m => by
    simp only [List.foldl_cons]
    rcases fold_is h l (max m (1 + h z)) with h1 | ⟨y, h1, h2⟩
    · by_cases hc : m ≤ 1 + h z
      · exact .inr ⟨z, by simp, by omega⟩
      · exact .inl (by omega)
    · exact .inr ⟨y, by simp [h1], h2⟩
theorem hmx_congr {h h' : Nat → Nat} {l : List Nat} (e : ∀ y ∈ l, h y = h' y) : hmx h l = hmx h' l := by
  unfold hmx
  suffices hs : ∀ (l : List Nat) (m : Nat), (∀ y ∈ l, h y = h' y) → l.foldl (fun m y => max m (1 + h y)) m = l.foldl (fun m y => max m (1 + h' y)) m from hs l 0 e
  intro l
  induction l with
  | nil => intro m _; rfl
  | cons z l ih =>
    intro m e
    simp only [List.foldl_cons]
    rw [e z (by simp)]
    exact ih _ fun y hy => e y (by simp [hy])
theorem Hok.step {nx : List (List Nat)} {a : List Nat} {h : Nat → Nat} {p : Nat} (ho : Hok (Ed nx) a h) (hp : p ∉ a) (hd : ∀ y, Ed nx p y → y ∈ a) : Hok (Ed nx) (a ++ [p]) (fun x => if x = p then hmx h (nx.getD p []) else h x) := by
  have hne : ∀ x, x ∈ a → x ≠ p := fun x hx e => hp (e ▸ hx)
  refine ⟨fun x hx => ?_, fun x y hx hy => ?_, fun x hx => ?_⟩
  · rcases List.mem_append.1 hx with hx | hx
    · simp only [hne x hx, if_false, List.length_append, List.length_singleton]
      have := ho.low x hx; omega
    · simp at hx; subst hx
      simp only [if_true, List.length_append, List.length_singleton]
      rcases fold_is h (nx.getD x []) 0 with h1 | ⟨y, h1, h2⟩
      · unfold hmx; omega
      · have := ho.low y (hd y h1)
        unfold hmx; omega
  · rcases List.mem_append.1 hx with hx | hx
    · obtain ⟨h1, h2⟩ := ho.dn x y hx hy
      simp only [hne x hx, hne y h1, if_false]
      exact ⟨by simp [h1], h2⟩
    · simp at hx; subst hx
      have h1 := hd y hy
      simp only [if_true, hne y h1, if_false]
      exact ⟨by simp [h1], fold_mem h _ 0 y hy⟩
  · rcases List.mem_append.1 hx with hx | hx
    · rcases ho.up x hx with h1 | ⟨y, h1, h2⟩
      · left; simp only [hne x hx, if_false]; exact h1
      · right
        refine ⟨y, h1, ?_⟩
        simp only [hne x hx, hne y (ho.dn x y hx h1).1, if_false]; exact h2
    · simp at hx; subst hx
      simp only [if_true]
      rcases fold_is h (nx.getD x []) 0 with h1 | ⟨y, h1, h2⟩
      · exact .inl h1
      · right
        refine ⟨y, h1, ?_⟩
        rw [if_neg (hne y (hd y h1))]; exact h2
theorem Hok.done {E : Nat → Nat → Prop} {n : Nat} {o : List Nat} {h : Nat → Nat} (ho : Hok E o h) (hs : Stl E n o) : Hgt E n h := fun x hx =>
  ⟨fun y hy => (ho.dn x y ((hs.all x).2 hx) hy).2, ho.up x ((hs.all x).2 hx)⟩

end Go.Proofs.Ytkgjmejpbklabaa
