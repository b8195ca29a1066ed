/-
  Layer 11, plain mathematics: a queue is the list of its tickets, and the greatest that ever came.
-/
namespace Go.Proofs.Ytkgjmejpbklabaa

/-- the tickets rise, and none is above the greatest that came -/
structure Up (xs : List Int) (m : Int) : Prop where
  rise : xs.Pairwise (· < ·)
  top : ∀ x ∈ xs, x ≤ m
  pos : 0 ≤ m
theorem Up.nil : Up [] 0 := ⟨List.Pairwise.nil, by simp, by omega⟩
theorem Up.put {xs : List Int} {m t : Int} (h : Up xs m) (ht : m < t) : Up (xs ++ [t]) t := by
  refine ⟨?_, ?_, by have := h.pos; omega⟩
  · rw [List.pairwise_append]
    refine ⟨h.rise, List.pairwise_singleton _ _, ?_⟩
    intro a ha b hb
    simp at hb
    subst hb
    have := h.top a ha
    omega
  · intro x hx
    simp at hx
    rcases hx with hx | rfl
    · have := h.top x hx; omega
    · omega
theorem Up.sub {xs ys : List Int} {m : Int} (h : Up xs m) (hs : ys.Sublist xs) : Up ys m :=
  ⟨h.rise.sublist hs, fun x hx => h.top x (hs.subset hx), h.pos⟩
theorem nd_of : ∀ {xs : List Int}, xs.Pairwise (· < ·) → xs.Nodup
  | [], _ => List.nodup_nil
  | x :: xs, h => List.nodup_cons.2 ⟨fun hm => by have := (List.pairwise_cons.1 h).1 x hm; omega, nd_of (List.pairwise_cons.1 h).2⟩
theorem or_id {a b c : Prop} (h : a ∨ b) (f : b → c) : a ∨ c := by
  rcases h with h | h
  · exact .inl h
  · exact .inr (f h)
theorem Up.nodup {xs : List Int} {m : Int} (h : Up xs m) : xs.Nodup := nd_of h.rise
theorem Up.erase {xs : List Int} {m : Int} (h : Up xs m) (t : Int) : Up (xs.erase t) m := h.sub List.erase_sublist
theorem Up.tail {xs : List Int} {x m : Int} (h : Up (x :: xs) m) : Up xs m := h.sub (List.sublist_cons_self _ _)
theorem Up.filter {xs : List Int} {m : Int} (h : Up xs m) (t : Int) : xs.filter (· != t) = xs.erase t := (h.nodup.erase_eq_filter t).symm

/-- where a ticket stands -/
def place (xs : List Int) (t : Int) : Int := if t ∈ xs then (xs.idxOf t : Int) else -1
theorem place_in {xs : List Int} {t : Int} (h : t ∈ xs) : place xs t = (xs.idxOf t : Int) := if_pos h
theorem place_out {xs : List Int} {t : Int} (h : t ∉ xs) : place xs t = -1 := if_neg h
theorem erase_idx (xs : List Int) (t : Int) : xs.eraseIdx (xs.idxOf t) = xs.erase t := (List.erase_eq_eraseIdx_of_idxOf rfl).symm
theorem place_at {xs : List Int} {m : Int} (h : Up xs m) {k : Nat} (hk : k < xs.length) : place xs xs[k] = k := by
  rw [place_in (List.getElem_mem hk), h.nodup.idxOf_getElem k hk]
theorem idxOf_pre (pre : List Int) (t : Int) (zs : List Int) (hn : t ∉ pre) (hp : pre ++ [t] <+: zs) : t ∈ zs ∧ zs.idxOf t = pre.length := by
  obtain ⟨r, rfl⟩ := hp
  refine ⟨by simp, ?_⟩
  rw [List.append_assoc, List.idxOf_append, if_neg hn]
  simp
theorem rise_get {xs : List Int} {m : Int} (h : Up xs m) {k : Nat} (h1 : 1 ≤ k) (hk : k < xs.length) : xs.getD (k - 1) 0 < xs.getD k 0 := by
  have := (List.pairwise_iff_getElem.1 h.rise) (k - 1) k (by omega) hk (by omega)
  simpa [List.getD, List.getElem?_eq_getElem hk, List.getElem?_eq_getElem (show k - 1 < xs.length by omega)] using this

/-- what has come when k rounds are over -/
def upto (zs : List Int) (k : Nat) : List Int := (List.range k).map fun j => zs.getD j 0
theorem upto_succ (zs : List Int) (k : Nat) : upto zs (k + 1) = upto zs k ++ [zs.getD k 0] := by simp [upto, List.range_succ]
theorem upto_length (zs : List Int) (k : Nat) : (upto zs k).length = k := by simp [upto]
theorem upto_take (zs : List Int) (k : Nat) (hk : k ≤ zs.length) : upto zs k = zs.take k := by
  apply List.ext_getElem
  · simp [upto]; omega
  · intro i h1 h2
    have h3 : i < zs.length := by simp at h2; omega
    simp [upto, List.getD, h3]
theorem upto_all (zs : List Int) : upto zs zs.length = zs := by rw [upto_take zs _ (Nat.le_refl _), List.take_length]

/-- a list whose piece from 1 to k+1 was laid over by the piece from 0 to k, and cut behind its first -/
theorem leave_at (xs : List Int) (k i : Nat) : (xs.eraseIdx k).getD i 0 = if i < k then xs.getD i 0 else xs.getD (i + 1) 0 := by
  simp only [List.getD, List.getElem?_eraseIdx]
  split <;> rfl

end Go.Proofs.Ytkgjmejpbklabaa
