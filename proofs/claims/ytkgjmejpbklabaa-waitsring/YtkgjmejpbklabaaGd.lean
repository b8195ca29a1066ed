/-
  Layer 15, plain mathematics of edges: a walk that goes as deep as it can.
-/
import Derived.Test.YtkgjmejpbklabaaGm
namespace Go.Proofs.Ytkgjmejpbklabaa

/-- edges by lists -/
def Ed (nx : List (List Nat)) (u v : Nat) : Prop := v ∈ nx.getD u []
theorem Ed.lt {nx : List (List Nat)} {u v : Nat} (h : Ed nx u v) : u < nx.length := by
  unfold Ed at h
  by_cases hu : u < nx.length
  · exact hu
  · rw [List.getD, List.getElem?_eq_none (by omega)] at h; simp at h

/-- sums -/
def sm (f : Nat → Nat) : Nat → Nat
  | 0 => 0
  | n + 1 => sm f n + f n
theorem sm_le {f g : Nat → Nat} : ∀ {n : Nat}, (∀ x, x < n → g x ≤ f x) → sm g n ≤ sm f n
  | 0, _ => Nat.le_refl _
  | n + 1, h => Nat.add_le_add (sm_le fun x hx => h x (by omega)) (h n (by omega))
theorem sm_lt {f g : Nat → Nat} : ∀ {n x0 : Nat}, (∀ x, x < n → g x ≤ f x) → x0 < n → g x0 < f x0 → sm g n < sm f n
  | 0, _, _, h, _ => by omega
  | n + 1, x0, h, h0, h1 => by
    by_cases he : x0 = n
    · subst he
      have := sm_le (n := x0) fun x hx => h x (by omega)
      simp only [sm]; omega
    · have := sm_lt (n := n) (fun x hx => h x (by omega)) (by omega) h1
      have := h n (by omega)
      simp only [sm]; omega

theorem getD_set {α : Type} (l : List α) (i j : Nat) (a d : α) : (l.set i a).getD j d = if i = j ∧ i < l.length then a else l.getD j d := by
  simp only [List.getD, List.getElem?_set]
  by_cases h : i = j
  · subst h
    by_cases h2 : i < l.length
    · simp [h2]
    · simp [h2]
  · simp [h]
theorem getD_lt_of_ne {α : Type} {l : List α} {i : Nat} {d : α} (h : l.getD i d ≠ d) : i < l.length := by
  by_cases hi : i < l.length
  · exact hi
  · exfalso; apply h; simp [List.getD, List.getElem?_eq_none (Nat.le_of_not_lt hi)]

/-- how far a walk has come: those that are settled, the way (its last place first), who was met, along how many edges it has gone -/
structure Dfs (nx : List (List Nat)) (o wy : List Nat) (mt : List Bool) (gn : List Nat) : Prop where
  lm : mt.length = nx.length
  lg : gn.length = nx.length
  nd : (o ++ wy).Nodup
  mem : ∀ x, mt.getD x false = true ↔ (x ∈ o ∨ x ∈ wy)
  ch : Ch (Ed nx) wy
  le : ∀ x, gn.getD x 0 ≤ (nx.getD x []).length
  seen : ∀ x i v, i < gn.getD x 0 → (nx.getD x [])[i]? = some v → v ∈ o ∨ v ∈ wy
  full : ∀ x, x ∈ o → gn.getD x 0 = (nx.getD x []).length
  kp : Kp (Ed nx) o wy

theorem Dfs.start (nx : List (List Nat)) : Dfs nx [] [] (List.replicate nx.length false) (List.replicate nx.length 0) where
  lm := by simp
  lg := by simp
  nd := by simp
  mem := fun x => by
    by_cases h : x < nx.length <;> simp [List.getD, h]
  ch := trivial
  le := fun x => by
    have : (List.replicate nx.length 0).getD x 0 = 0 := by
      by_cases h : x < nx.length <;> simp [List.getD, h]
    rw [this]; exact Nat.zero_le _
  seen := fun x i v h => by
    have : (List.replicate nx.length 0).getD x 0 = 0 := by
      by_cases h : x < nx.length <;> simp [List.getD, h]
    omega
  full := fun x h => by simp at h
  kp := Kp.nil

theorem Dfs.lt {nx : List (List Nat)} {o wy : List Nat} {mt : List Bool} {gn : List Nat} (h : Dfs nx o wy mt gn) {x : Nat} (hx : x ∈ o ∨ x ∈ wy) : x < nx.length := by
  have := (h.mem x).2 hx
  rw [← h.lm]; exact getD_lt_of_ne (d := false) (by rw [this]; simp)
theorem Dfs.fresh {nx : List (List Nat)} {o wy : List Nat} {mt : List Bool} {gn : List Nat} (h : Dfs nx o wy mt gn) {x : Nat} (hx : mt.getD x false = false) : x ∉ o ∧ x ∉ wy :=
  ⟨fun hc => (by have := (h.mem x).2 (.inl hc); rw [hx] at this; exact Bool.noConfusion this), fun hc => (by have := (h.mem x).2 (.inr hc); rw [hx] at this; exact Bool.noConfusion this)⟩

theorem Dfs.put {nx : List (List Nat)} {o wy : List Nat} {mt : List Bool} {gn : List Nat} (h : Dfs nx o wy mt gn) {v : Nat} (hv : mt.getD v false = false) (hn : v < nx.length) (hc : Ch (Ed nx) (v :: wy)) : Dfs nx o (v :: wy) (mt.set v true) gn where
  lm := by simp [h.lm]
  lg := h.lg
  nd := by
    have hf := h.fresh hv
    have hnd := List.nodup_append.1 h.nd
    refine List.nodup_append.2 ⟨hnd.1, List.nodup_cons.2 ⟨hf.2, hnd.2.1⟩, fun a ha b hb e => ?_⟩
    subst e
    rcases List.mem_cons.1 hb with rfl | hb
    · exact hf.1 ha
    · exact hnd.2.2 a ha a hb rfl
  mem := fun x => by
    rw [getD_set]
    by_cases hx : v = x
    · subst hx; simp [h.lm, hn]
    · rw [if_neg (fun hc => hx hc.1), h.mem x]; simp [Ne.symm hx]
  ch := hc
  le := h.le
  seen := fun x i u h1 h2 => by
    rcases h.seen x i u h1 h2 with h3 | h3
    · exact .inl h3
    · exact .inr (by simp [h3])
  full := h.full
  kp := h.kp.more

theorem Dfs.root {nx : List (List Nat)} {o : List Nat} {mt : List Bool} {gn : List Nat} (h : Dfs nx o [] mt gn) {v : Nat} (hv : mt.getD v false = false) (hn : v < nx.length) : Dfs nx o [v] (mt.set v true) gn := h.put hv hn trivial

theorem Dfs.pop {nx : List (List Nat)} {o wy : List Nat} {mt : List Bool} {gn : List Nat} {t : Nat} (h : Dfs nx o (t :: wy) mt gn) (hg : gn.getD t 0 = (nx.getD t []).length) : Dfs nx (o ++ [t]) wy mt gn where
  lm := h.lm
  lg := h.lg
  nd := by have := h.nd; rw [show o ++ t :: wy = (o ++ [t]) ++ wy by simp] at this; exact this
  mem := fun x => by rw [h.mem x]; simp [or_assoc]
  ch := h.ch.tail
  le := h.le
  seen := fun x i u h1 h2 => by
    rcases h.seen x i u h1 h2 with h3 | h3
    · exact .inl (by simp [h3])
    · rcases List.mem_cons.1 h3 with rfl | h3
      · exact .inl (by simp)
      · exact .inr h3
  full := fun x hx => by
    rw [List.mem_append] at hx
    rcases hx with hx | hx
    · exact h.full x hx
    · simp at hx; subst hx; exact hg
  kp := h.kp.pop h.ch fun v hv => by
    obtain ⟨i, hi, e⟩ := List.getElem_of_mem hv
    exact h.seen t i v (by omega) (by rw [List.getElem?_eq_getElem hi, e])

theorem Dfs.pass {nx : List (List Nat)} {o wy : List Nat} {mt : List Bool} {gn : List Nat} {t v : Nat} (h : Dfs nx o (t :: wy) mt gn) (he : (nx.getD t [])[gn.getD t 0]? = some v) (hv : mt.getD v false = true) :
    Dfs nx o (t :: wy) mt (gn.set t (gn.getD t 0 + 1)) where
  lm := h.lm
  lg := by simp [h.lg]
  nd := h.nd
  mem := h.mem
  ch := h.ch
  le := fun x => by
    rw [getD_set]
    have hlt : gn.getD t 0 < (nx.getD t []).length := (List.getElem?_eq_some_iff.1 he).1
    by_cases hx : t = x ∧ t < gn.length
    · rw [if_pos hx, ← hx.1]; omega
    · rw [if_neg hx]; exact h.le x
  seen := fun x i u h1 h2 => by
    rw [getD_set] at h1
    by_cases hx : t = x ∧ t < gn.length
    · rw [if_pos hx] at h1
      obtain ⟨rfl, _⟩ := hx
      by_cases hi : i = gn.getD t 0
      · subst hi; rw [he] at h2; cases h2; exact (h.mem v).1 hv
      · exact h.seen t i u (by omega) h2
    · rw [if_neg hx] at h1; exact h.seen x i u h1 h2
  full := fun x hx => by
    rw [getD_set, if_neg]
    · exact h.full x hx
    · rintro ⟨rfl, _⟩
      exact (List.nodup_append.1 h.nd).2.2 t hx t (by simp) rfl
  kp := h.kp

theorem Dfs.push {nx : List (List Nat)} {o wy : List Nat} {mt : List Bool} {gn : List Nat} {t v : Nat} (h : Dfs nx o (t :: wy) mt gn) (he : (nx.getD t [])[gn.getD t 0]? = some v) (hv : mt.getD v false = false) (hn : v < nx.length) :
    Dfs nx o (v :: t :: wy) (mt.set v true) (gn.set t (gn.getD t 0 + 1)) := by
  have hE : Ed nx t v := List.mem_of_getElem? he
  have h1 := h.put hv hn ⟨hE, h.ch⟩
  have hne : ∀ x, x ∈ o → x ≠ t := fun x hx e => by
    subst e
    exact (List.nodup_append.1 h.nd).2.2 x hx x (by simp) rfl
  have hlt : gn.getD t 0 < (nx.getD t []).length := (List.getElem?_eq_some_iff.1 he).1
  exact { h1 with
    lg := by simp [h.lg]
    le := fun x => by
      rw [getD_set]
      by_cases hx : t = x ∧ t < gn.length
      · rw [if_pos hx, ← hx.1]; omega
      · rw [if_neg hx]; exact h.le x
    seen := fun x i u h2 h3 => by
      rw [getD_set] at h2
      by_cases hx : t = x ∧ t < gn.length
      · rw [if_pos hx] at h2
        obtain ⟨rfl, _⟩ := hx
        by_cases hi : i = gn.getD t 0
        · subst hi; rw [he] at h3; cases h3; exact .inr (by simp)
        · exact h1.seen t i u (by omega) h3
      · rw [if_neg hx] at h2; exact h1.seen x i u h2 h3
    full := fun x hx => by
      rw [getD_set, if_neg (fun hc => hne x hx hc.1.symm)]
      exact h.full x hx }

theorem Dfs.done {nx : List (List Nat)} {o : List Nat} {mt : List Bool} {gn : List Nat} (h : Dfs nx o [] mt gn) (ha : ∀ x, x < nx.length → mt.getD x false = true) : Stl (Ed nx) nx.length o where
  nd := by simpa using h.nd
  all := fun x => ⟨fun hx => h.lt (.inl hx), fun hx => by have := (h.mem x).1 (ha x hx); simpa using this⟩
  kp := fun a u b e v hv => by
    rcases h.kp a u b e v hv with h1 | h1 | ⟨h1, _⟩
    · exact .inl h1
    · exact .inr h1
    · simp at h1

/-- how much is left to do -/
def lft (nx : List (List Nat)) (o gn : List Nat) : Nat := sm (fun x => (nx.getD x []).length - gn.getD x 0) nx.length + (nx.length - o.length)
theorem Dfs.room {nx : List (List Nat)} {o wy : List Nat} {mt : List Bool} {gn : List Nat} (h : Dfs nx o wy mt gn) : o.length + wy.length ≤ nx.length := by
  have := nodup_lt h.nd (n := nx.length) fun x hx => by
    rw [List.mem_append] at hx; exact h.lt hx
  simpa using this
theorem Dfs.lft_pop {nx : List (List Nat)} {o wy : List Nat} {mt : List Bool} {gn : List Nat} {t : Nat} (h : Dfs nx o (t :: wy) mt gn) : lft nx (o ++ [t]) gn < lft nx o gn := by
  have := h.room
  simp only [lft, List.length_append, List.length_cons, List.length_nil] at this ⊢
  omega
theorem Dfs.lft_go {nx : List (List Nat)} {o wy : List Nat} {mt : List Bool} {gn : List Nat} {t : Nat} (h : Dfs nx o (t :: wy) mt gn) (hg : gn.getD t 0 < (nx.getD t []).length) : lft nx o (gn.set t (gn.getD t 0 + 1)) < lft nx o gn := by
  have ht : t < nx.length := h.lt (.inr (by simp))
  have : sm (fun x => (nx.getD x []).length - (gn.set t (gn.getD t 0 + 1)).getD x 0) nx.length < sm (fun x => (nx.getD x []).length - gn.getD x 0) nx.length := by
    refine sm_lt (x0 := t) (fun x _ => ?_) ht ?_
    · simp only [getD_set]
      by_cases hx : t = x ∧ t < gn.length
      · rw [if_pos hx, ← hx.1]; omega
      · rw [if_neg hx]; exact Nat.le_refl _
    · simp only [getD_set, h.lg, ht, and_self, if_true]; omega
  simp only [lft]; omega

end Go.Proofs.Ytkgjmejpbklabaa
