/-
  Layer 15, plain mathematics of edges: a flood, the nearer ones first; the least place on a ring.
-/
import Derived.Test.YtkgjmejpbklabaaGd
namespace Go.Proofs.Ytkgjmejpbklabaa

/-- how far it is to a place that no way leads to -/
def NW : Nat := 9223372036854775807
/-- how far a place is -/
abbrev fg (f : List Nat) (x : Nat) : Nat := f.getD x NW
/-- an edge (told at its end), from a place that had not been reached -/
def Eu (bk : List (List Nat)) (f0 : List Nat) (u v : Nat) : Prop := u ∈ bk.getD v [] ∧ fg f0 u = NW

/-- how far a flood has come: i of those that it has reached are done -/
structure Fld (bk : List (List Nat)) (f0 : List Nat) (r : Nat) (q f : List Nat) (i : Nat) : Prop where
  l0 : f0.length = bk.length
  ln : f.length = bk.length
  hd : q[0]? = some r
  nd : q.Nodup
  un : ∀ x, x ∈ q → fg f0 x = NW ∧ x < bk.length
  fr : ∀ x, x ∉ q → fg f x = fg f0 x
  inq : ∀ k x : Nat, q[k]? = some x → fg f x ≤ k
  wy : ∀ x, x ∈ q → Pt (Eu bk f0) (fg f x) x r
  srt : ∀ k l x y : Nat, k ≤ l → q[k]? = some x → q[l]? = some y → fg f x ≤ fg f y
  top : ∀ x y : Nat, q[i]? = some x → y ∈ q → fg f y ≤ fg f x + 1
  dn : ∀ k x u : Nat, k < i → q[k]? = some x → u ∈ bk.getD x [] → fg f0 u = NW → u ∈ q ∧ fg f u ≤ fg f x + 1

theorem Fld.begin {bk : List (List Nat)} {f0 : List Nat} {r : Nat} (h0 : f0.length = bk.length) (hr : r < bk.length) (hu : fg f0 r = NW) : Fld bk f0 r [r] (f0.set r 0) 0 where
  l0 := h0
  ln := by simp [h0]
  hd := rfl
  nd := by simp
  un := fun x hx => by simp at hx; subst hx; exact ⟨hu, hr⟩
  fr := fun x hx => by
    simp at hx
    simp only [fg]; rw [getD_set, if_neg (fun hc => hx hc.1.symm)]
  inq := fun k x hk => by
    have : k = 0 ∧ r = x := by
      cases k with
      | zero => simpa using hk
      | succ k => simp at hk
    obtain ⟨rfl, rfl⟩ := this
    simp only [fg]; rw [getD_set, if_pos ⟨rfl, by omega⟩]; exact Nat.le_refl _
  wy := fun x hx => by
    simp at hx; subst hx
    have : fg (f0.set x 0) x = 0 := by simp only [fg]; rw [getD_set, if_pos ⟨rfl, by omega⟩]
    rw [this]; rfl
  srt := fun k l x y _ hx hy => by
    have e1 : x ∈ [r] := List.mem_of_getElem? hx
    have e2 : y ∈ [r] := List.mem_of_getElem? hy
    simp at e1 e2; rw [e1, e2]; exact Nat.le_refl _
  top := fun x y hx hy => by
    have e1 : x ∈ [r] := List.mem_of_getElem? hx
    simp at e1 hy; rw [e1, hy]; omega
  dn := fun k x u hk => by omega

theorem Fld.small {bk : List (List Nat)} {f0 : List Nat} {r : Nat} {q f : List Nat} {i : Nat} (h : Fld bk f0 r q f i) : q.length ≤ bk.length := nodup_lt h.nd fun x hx => (h.un x hx).2
theorem Fld.lt {bk : List (List Nat)} {f0 : List Nat} {r : Nat} {q f : List Nat} {i : Nat} (h : Fld bk f0 r q f i) {x : Nat} (hx : x ∈ q) : fg f x < bk.length := by
  obtain ⟨k, hk, e⟩ := List.getElem_of_mem hx
  have := h.inq k x (by rw [List.getElem?_eq_getElem hk, e])
  have := h.small
  omega

/-- .. and j of the edges of the next one, too -/
structure Fli (bk : List (List Nat)) (f0 : List Nat) (r : Nat) (q f : List Nat) (i t j : Nat) : Prop extends Fld bk f0 r q f i where
  cur : q[i]? = some t
  now : ∀ l u : Nat, l < j → (bk.getD t [])[l]? = some u → fg f0 u = NW → u ∈ q ∧ fg f u ≤ fg f t + 1

theorem Fld.turn {bk : List (List Nat)} {f0 : List Nat} {r : Nat} {q f : List Nat} {i t : Nat} (h : Fld bk f0 r q f i) (hc : q[i]? = some t) : Fli bk f0 r q f i t 0 := { h with cur := hc, now := fun l u hl => by omega }
theorem Fli.next {bk : List (List Nat)} {f0 : List Nat} {r : Nat} {q f : List Nat} {i t : Nat} (h : Fli bk f0 r q f i t (bk.getD t []).length) : Fld bk f0 r q f (i + 1) := { h with
  top := fun x y hx hy => by
    have h1 := h.top t y h.cur hy
    have h2 := h.srt i (i + 1) t x (by omega) h.cur hx
    omega
  dn := fun k x u hk hx hu h0 => by
    by_cases hki : k = i
    · subst hki
      have := h.cur; rw [hx] at this; cases this
      obtain ⟨l, hl, e⟩ := List.getElem_of_mem hu
      exact h.now l u hl (by rw [List.getElem?_eq_getElem hl, e]) h0
    · exact h.dn k x u (by omega) hx hu h0 }
theorem Fli.skip {bk : List (List Nat)} {f0 : List Nat} {r : Nat} {q f : List Nat} {i t j u : Nat} (h : Fli bk f0 r q f i t j) (hj : (bk.getD t [])[j]? = some u) (hu : fg f u ≠ NW) : Fli bk f0 r q f i t (j + 1) := { h with
  now := fun l v hl hv h0 => by
    by_cases hlj : l = j
    · subst hlj; rw [hj] at hv; cases hv
      by_cases hq : u ∈ q
      · exact ⟨hq, h.top t u h.cur hq⟩
      · exact absurd (by rw [h.fr u hq]; exact h0) hu
    · exact h.now l v (by omega) hv h0 }
theorem Fli.add {bk : List (List Nat)} {f0 : List Nat} {r : Nat} {q f : List Nat} {i t j u : Nat} (h : Fli bk f0 r q f i t j) (hb : bk.length < NW) (hj : (bk.getD t [])[j]? = some u) (hn : u < bk.length) (hu : fg f u = NW) :
    Fli bk f0 r (q ++ [u]) (f.set u (fg f t + 1)) i t (j + 1) := by
  have huq : u ∉ q := fun hq => by have := h.lt hq; omega
  have h0 : fg f0 u = NW := by rw [← h.fr u huq]; exact hu
  have hlu : u < f.length := by rw [h.ln]; exact hn
  have hself : fg (f.set u (fg f t + 1)) u = fg f t + 1 := by simp only [fg]; rw [getD_set, if_pos ⟨rfl, hlu⟩]
  have hold : ∀ x, x ≠ u → fg (f.set u (fg f t + 1)) x = fg f x := fun x hx => by simp only [fg]; rw [getD_set, if_neg (fun hc => hx hc.1.symm)]
  have hne : ∀ x, x ∈ q → x ≠ u := fun x hx e => huq (e ▸ hx)
  have htq : t ∈ q := List.mem_of_getElem? h.cur
  have hiq : i < q.length := (List.getElem?_eq_some_iff.1 h.cur).1
  have hcur : (q ++ [u])[i]? = some t := by rw [List.getElem?_append_left hiq]; exact h.cur
  have hpart : ∀ {k x : Nat}, (q ++ [u])[k]? = some x → (q[k]? = some x ∧ x ∈ q) ∨ (k = q.length ∧ x = u) := fun {k x} hk => by
    by_cases hl : k < q.length
    · rw [List.getElem?_append_left hl] at hk; exact .inl ⟨hk, List.mem_of_getElem? hk⟩
    · have : k = q.length := by
        have := (List.getElem?_eq_some_iff.1 hk).1
        simp at this; omega
      subst this
      simp at hk; exact .inr ⟨rfl, hk.symm⟩
  exact {
    l0 := h.l0
    ln := by simp [h.ln]
    hd := by
      have : 0 < q.length := by omega
      rw [List.getElem?_append_left this]; exact h.hd
    nd := by
      refine List.nodup_append.2 ⟨h.nd, by simp, fun a ha b hb e => ?_⟩
      simp at hb; subst hb; subst e; exact huq ha
    un := fun x hx => by
      rcases List.mem_append.1 hx with hx | hx
      · exact h.un x hx
      · simp at hx; subst hx; exact ⟨h0, hn⟩
    fr := fun x hx => by
      simp at hx
      rw [hold x hx.2]; exact h.fr x hx.1
    inq := fun k x hk => by
      rcases hpart hk with ⟨h1, h2⟩ | ⟨rfl, rfl⟩
      · rw [hold x (hne x h2)]; exact h.inq k x h1
      · rw [hself]
        have := h.inq i t h.cur
        omega
    wy := fun x hx => by
      rcases List.mem_append.1 hx with hx | hx
      · rw [hold x (hne x hx)]; exact h.wy x hx
      · simp at hx; subst hx
        rw [hself]
        exact ⟨t, ⟨List.mem_of_getElem? hj, h0⟩, h.wy t htq⟩
    srt := fun k l x y hkl hx hy => by
      rcases hpart hx with ⟨h1, h2⟩ | ⟨rfl, rfl⟩
      · rcases hpart hy with ⟨h3, h4⟩ | ⟨rfl, rfl⟩
        · rw [hold x (hne x h2), hold y (hne y h4)]; exact h.srt k l x y hkl h1 h3
        · rw [hold x (hne x h2), hself]; exact h.top t x h.cur h2
      · rcases hpart hy with ⟨h3, h4⟩ | ⟨h3, rfl⟩
        · have := (List.getElem?_eq_some_iff.1 h3).1; omega
        · exact Nat.le_refl _
    top := fun x y hx hy => by
      rw [hcur] at hx; cases hx
      rw [hold t (hne t htq)]
      rcases List.mem_append.1 hy with hy | hy
      · rw [hold y (hne y hy)]; exact h.top t y h.cur hy
      · simp at hy; subst hy; rw [hself]; exact Nat.le_refl _
    dn := fun k x v hk hx hv hv0 => by
      rcases hpart hx with ⟨h1, h2⟩ | ⟨rfl, rfl⟩
      · obtain ⟨h3, h4⟩ := h.dn k x v hk h1 hv hv0
        rw [hold x (hne x h2), hold v (hne v h3)]
        exact ⟨by simp [h3], h4⟩
      · omega
    cur := hcur
    now := fun l v hl hv hv0 => by
      rw [hold t (hne t htq)]
      by_cases hlj : l = j
      · subst hlj; rw [hj] at hv; cases hv
        rw [hself]; exact ⟨by simp, Nat.le_refl _⟩
      · obtain ⟨h3, h4⟩ := h.now l v (by omega) hv hv0
        rw [hold v (hne v h3)]; exact ⟨by simp [h3], h4⟩ }

/-- what a flood comes to -/
structure Flo (bk : List (List Nat)) (f0 : List Nat) (r : Nat) (q f : List Nat) : Prop where
  ln : f.length = bk.length
  nd : q.Nodup
  un : ∀ x, x ∈ q → fg f0 x = NW ∧ x < bk.length
  fr : ∀ x, x ∉ q → fg f x = fg f0 x
  lt : ∀ x, x ∈ q → fg f x < bk.length
  wy : ∀ x, x ∈ q → Pt (Eu bk f0) (fg f x) x r
  all : ∀ k x : Nat, Pt (Eu bk f0) k x r → x ∈ q ∧ fg f x ≤ k
theorem Fld.done {bk : List (List Nat)} {f0 : List Nat} {r : Nat} {q f : List Nat} (h : Fld bk f0 r q f q.length) : Flo bk f0 r q f where
  ln := h.ln
  nd := h.nd
  un := h.un
  fr := h.fr
  lt := fun x hx => h.lt hx
  wy := h.wy
  all := by
    intro k
    induction k with
    | zero =>
      intro x hx
      have : x = r := hx
      subst this
      exact ⟨List.mem_of_getElem? h.hd, h.inq 0 x h.hd⟩
    | succ k ih =>
      rintro x ⟨y, ⟨hy, h0⟩, hw⟩
      obtain ⟨h1, h2⟩ := ih y hw
      obtain ⟨l, hl, e⟩ := List.getElem_of_mem h1
      obtain ⟨h3, h4⟩ := h.dn l y x hl (by rw [List.getElem?_eq_getElem hl, e]) hy h0
      exact ⟨h3, by omega⟩
theorem Flo.root {bk : List (List Nat)} {f0 : List Nat} {r : Nat} {q f : List Nat} (h : Flo bk f0 r q f) : r ∈ q := (h.all 0 r rfl).1

/-- the edges, the other way round -/
def Tnd (nx bk : List (List Nat)) : Prop := bk.length = nx.length ∧ (∀ u v : Nat, u ∈ bk.getD v [] ↔ Ed nx u v) ∧ ∀ v : Nat, (bk.getD v []).Nodup
/-- .. those of the places below k, and j of k's -/
def Tni (nx : List (List Nat)) (k j : Nat) (bk : List (List Nat)) : Prop := bk.length = nx.length ∧ (∀ u v : Nat, u ∈ bk.getD v [] ↔ (u < k ∧ Ed nx u v) ∨ (u = k ∧ v ∈ (nx.getD k []).take j)) ∧ ∀ v : Nat, (bk.getD v []).Nodup
theorem Tni.start (nx : List (List Nat)) : Tni nx 0 0 (List.replicate nx.length []) := by
  have e : ∀ v, (List.replicate nx.length ([] : List Nat)).getD v [] = [] := fun v => by
    by_cases h : v < nx.length <;> simp [List.getD, h]
  refine ⟨by simp, fun u v => ?_, fun v => ?_⟩
  · rw [e]; simp
  · rw [e]; simp
theorem Tni.next {nx bk : List (List Nat)} {k : Nat} (h : Tni nx k (nx.getD k []).length bk) : Tni nx (k + 1) 0 bk := by
  refine ⟨h.1, fun u v => ?_, h.2.2⟩
  rw [h.2.1 u v, List.take_length]
  constructor
  · rintro (⟨h1, h2⟩ | ⟨rfl, h2⟩)
    · exact .inl ⟨by omega, h2⟩
    · exact .inl ⟨by omega, h2⟩
  · rintro (⟨h1, h2⟩ | ⟨_, h2⟩)
    · by_cases hu : u = k
      · subst hu; exact .inr ⟨rfl, h2⟩
      · exact .inl ⟨by omega, h2⟩
    · simp at h2
theorem Tni.put {nx bk : List (List Nat)} {k j v : Nat} (h : Tni nx k j bk) (hj : (nx.getD k [])[j]? = some v) (hn : v < nx.length) (hd : (nx.getD k []).Nodup) : Tni nx k (j + 1) (bk.set v (bk.getD v [] ++ [k])) := by
  have ht : (nx.getD k []).take (j + 1) = (nx.getD k []).take j ++ [v] := by rw [List.take_add_one, hj]; rfl
  have hnk : k ∉ bk.getD v [] := by
    rw [h.2.1 k v]
    rintro (⟨h1, _⟩ | ⟨_, h1⟩)
    · omega
    · have h2 : ((nx.getD k []).take j ++ [v]).Nodup := by rw [← ht]; exact hd.sublist (List.take_sublist _ _)
      exact (List.nodup_append.1 h2).2.2 v h1 v (by simp) rfl
  refine ⟨by simp [h.1], fun u x => ?_, fun x => ?_⟩
  case refine_2 =>
    rw [getD_set]
    by_cases hx : v = x
    · subst hx
      rw [if_pos ⟨rfl, by rw [h.1]; exact hn⟩]
      refine List.nodup_append.2 ⟨h.2.2 v, by simp, fun a ha b hb e => ?_⟩
      simp at hb; subst hb; subst e; exact hnk ha
    · rw [if_neg (fun hc => hx hc.1)]; exact h.2.2 x
  rw [ht, getD_set]
  by_cases hx : v = x
  · subst hx
    rw [if_pos ⟨rfl, by rw [h.1]; exact hn⟩, List.mem_append, h.2.1 u v]
    simp
    constructor
    · rintro ((h1 | h1) | h1)
      · exact .inl h1
      · exact .inr h1.1
      · exact .inr h1
    · rintro (h1 | h1)
      · exact .inl (.inl h1)
      · exact .inr h1
  · rw [if_neg (fun hc => hx hc.1), h.2.1 u x]
    simp [Ne.symm hx]
theorem Tni.done {nx bk : List (List Nat)} (h : Tni nx nx.length 0 bk) : Tnd nx bk := by
  refine ⟨h.1, fun u v => ?_, h.2.2⟩
  rw [h.2.1 u v]
  constructor
  · rintro (⟨_, h2⟩ | ⟨_, h2⟩)
    · exact h2
    · simp at h2
  · intro h2; exact .inl ⟨h2.lt, h2⟩

/-! ### The least on a ring -/
/-- how far the search has come: those of b are done; the least so far -/
structure Lst (nx : List (List Nat)) (b f : List Nat) (m : Nat) : Prop where
  ln : f.length = nx.length
  cov : ∀ x, x ∈ b → fg f x ≠ NW
  cl : ∀ u v : Nat, Ed nx u v → fg f v ≠ NW → fg f u ≠ NW
  lo : m = NW ∨ (m < nx.length ∧ OnR (Ed nx) m)
  mn : ∀ x, OnR (Ed nx) x → fg f x ≠ NW → m ≤ x
theorem fg_rep (n x : Nat) : fg (List.replicate n NW) x = NW := by
  by_cases h : x < n <;> simp [fg, List.getD, h]
theorem Lst.start (nx : List (List Nat)) : Lst nx [] (List.replicate nx.length NW) NW where
  ln := by simp
  cov := fun x h => by simp at h
  cl := fun u v _ h => absurd (fg_rep _ _) h
  lo := .inl rfl
  mn := fun x _ h => absurd (fg_rep _ _) h
theorem Lst.skip {nx : List (List Nat)} {b f : List Nat} {m p : Nat} (h : Lst nx b f m) (hp : fg f p ≠ NW) : Lst nx (p :: b) f m := { h with
  cov := fun x hx => by
    rcases List.mem_cons.1 hx with rfl | hx
    · exact hp
    · exact h.cov x hx }
theorem Lst.blocked {nx : List (List Nat)} {b f : List Nat} {m : Nat} (h : Lst nx b f m) : ∀ {k u v : Nat}, Pt (Ed nx) k u v → fg f v ≠ NW → fg f u ≠ NW
  | 0, u, v, hw, hv => by have : u = v := hw; subst this; exact hv
  | k + 1, u, v, ⟨x, hx, hw⟩, hv => h.cl u x hx (Lst.blocked h hw hv)
/-- whoever is flooded leads to p, and is led to by it -/
theorem Lst.both {nx bk : List (List Nat)} {o a b f q f' : List Nat} {m p : Nat} (h : Lst nx b f m) (hs : Stl (Ed nx) nx.length o) (e : o = a ++ p :: b) (ht : Tnd nx bk) (hp : fg f p = NW) (hf : Flo bk f p q f') :
    ∀ x, x ∈ q ↔ (Rch (Ed nx) x p ∧ Rch (Ed nx) p x) := by
  have up : ∀ {k u : Nat}, Pt (Ed nx) k u p → fg f u = NW → Pt (Eu bk f) k u p := by
    intro k
    induction k with
    | zero => intro u hw _; exact hw
    | succ k ih =>
      rintro u ⟨x, hx, hw⟩ hu
      refine ⟨x, ⟨(ht.2.1 u x).2 hx, hu⟩, ih hw ?_⟩
      apply Classical.byContradiction
      intro hc
      exact h.cl u x hx hc hu
  intro x
  constructor
  · intro hx
    have hw : Pt (Ed nx) (fg f' x) x p := (hf.wy x hx).same fun a b hab => (ht.2.1 a b).1 hab.1
    refine ⟨⟨_, hw⟩, ?_⟩
    refine hs.back (fun u v huv => huv.lt) e _ _ (Nat.le_refl _) x hw fun y hy hr => ?_
    obtain ⟨k, hk⟩ := hr
    exact h.blocked hk (h.cov y hy) (hf.un x hx).1
  · rintro ⟨⟨k, hk⟩, ⟨j, hj⟩⟩
    have hx0 : fg f x = NW := by
      apply Classical.byContradiction
      intro hc
      exact h.blocked hj hc hp
    exact (hf.all k x (up hk hx0)).1
theorem Lst.flood {nx bk : List (List Nat)} {o a b f q f' : List Nat} {m p m' : Nat} (h : Lst nx b f m) (hs : Stl (Ed nx) nx.length o) (e : o = a ++ p :: b) (ht : Tnd nx bk) (hb : nx.length < NW) (hp : fg f p = NW) (hf : Flo bk f p q f')
    (hm1 : (1 < q.length ∨ Ed nx p p) → (m' = m ∨ m' ∈ q) ∧ m' ≤ m ∧ (∀ x, x ∈ q → m' ≤ x)) (hm2 : ¬ (1 < q.length ∨ Ed nx p p) → m' = m) : Lst nx (p :: b) f' m' := by
  have hbo := h.both hs e ht hp hf
  have hlen : bk.length = nx.length := ht.1
  have hinq : ∀ x, x ∈ q → fg f' x ≠ NW := fun x hx => by have := hf.lt x hx; omega
  have hgr : ∀ x, fg f x ≠ NW → fg f' x ≠ NW := fun x hx => by
    by_cases hq : x ∈ q
    · exact hinq x hq
    · rw [hf.fr x hq]; exact hx
  have hon : ∀ x, x ∈ q → (OnR (Ed nx) x ↔ (1 < q.length ∨ Ed nx p p)) := by
    intro x hx
    constructor
    · intro hr
      obtain ⟨y, hy, hyx⟩ := hr.out
      have hyq : y ∈ q := (hbo y).2 ⟨hyx.trans ((hbo x).1 hx).1, ((hbo x).1 hx).2.trans (Rch.one hy)⟩
      by_cases hl : 1 < q.length
      · exact .inl hl
      · right
        have hpq := hf.root
        match q, hl, hx, hyq, hpq with
        | [z], _, hx, hyq, hpq =>
          simp at hx hyq hpq
          subst hx; subst hyq; subst hpq
          exact hy
        | _ :: _ :: _, hl, _, _, _ => simp at hl
    · rintro (hl | hl)
      · have : ∃ y, y ∈ q ∧ y ≠ x := by
          match q, hl, hf.nd with
          | y1 :: y2 :: r, _, hnd =>
            by_cases h1 : y1 = x
            · refine ⟨y2, by simp, fun h2 => ?_⟩
              rw [h1, ← h2] at hnd; simp at hnd
            · exact ⟨y1, by simp, h1⟩
        obtain ⟨y, hy, hne⟩ := this
        have h1 : Rch (Ed nx) x y := ((hbo x).1 hx).1.trans ((hbo y).1 hy).2
        have h2 : Rch (Ed nx) y x := ((hbo y).1 hy).1.trans ((hbo x).1 hx).2
        obtain ⟨k, hk⟩ := h1
        cases k with
        | zero => exact absurd (show x = y from hk).symm hne
        | succ k =>
          obtain ⟨z, hz, hw⟩ := hk
          exact OnR.of hz (Rch.trans ⟨k, hw⟩ h2)
      · obtain ⟨k, hk⟩ := ((hbo x).1 hx).1
        obtain ⟨j, hj⟩ := ((hbo x).1 hx).2
        have := (hk.join (Pt.one hl)).join hj
        exact ⟨k + j, by rw [show k + j + 1 = k + 1 + j by omega]; exact this⟩
  refine ⟨by rw [hf.ln, hlen], fun x hx => ?_, fun u v huv hv => ?_, ?_, fun x hx hfx => ?_⟩
  · rcases List.mem_cons.1 hx with rfl | hx
    · exact hinq _ hf.root
    · exact hgr x (h.cov x hx)
  · by_cases hvq : v ∈ q
    · by_cases hu0 : fg f u = NW
      · have hw : Pt (Eu bk f) (fg f' v + 1) u p := ⟨v, ⟨(ht.2.1 u v).2 huv, hu0⟩, hf.wy v hvq⟩
        exact hinq u (hf.all _ u hw).1
      · exact hgr u hu0
    · rw [hf.fr v hvq] at hv
      exact hgr u (h.cl u v huv hv)
  · by_cases hc : 1 < q.length ∨ Ed nx p p
    · have hm := hm1 hc
      rcases hm.1 with rfl | hmq
      · exact h.lo
      · exact .inr ⟨by rw [← hlen]; exact (hf.un _ hmq).2, (hon _ hmq).2 hc⟩
    · rw [hm2 hc]; exact h.lo
  · by_cases hxq : x ∈ q
    · have hc := (hon x hxq).1 hx
      exact (hm1 hc).2.2 x hxq
    · rw [hf.fr x hxq] at hfx
      have := h.mn x hx hfx
      by_cases hc : 1 < q.length ∨ Ed nx p p
      · have := (hm1 hc).2.1; omega
      · have := hm2 hc; omega
theorem Lst.done {nx : List (List Nat)} {o f : List Nat} {m : Nat} (h : Lst nx o f m) (hs : Stl (Ed nx) nx.length o) (hb : nx.length < NW) :
    (m = NW ∧ ∀ x, ¬ OnR (Ed nx) x) ∨ (m < nx.length ∧ OnR (Ed nx) m ∧ ∀ x, OnR (Ed nx) x → m ≤ x) := by
  have hall : ∀ x, OnR (Ed nx) x → m ≤ x ∧ x < nx.length := fun x hx => by
    obtain ⟨y, hy, _⟩ := hx.out
    exact ⟨h.mn x hx (h.cov x ((hs.all x).2 hy.lt)), hy.lt⟩
  rcases h.lo with rfl | ⟨h1, h2⟩
  · refine .inl ⟨rfl, fun x hx => ?_⟩
    have := hall x hx
    omega
  · exact .inr ⟨h1, h2, fun x hx => (hall x hx).1⟩

end Go.Proofs.Ytkgjmejpbklabaa
