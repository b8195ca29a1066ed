/-
  Layer 15, plain mathematics of edges: what the graph of edges is.
-/
import Derived.Test.YtkgjmejpbklabaaGr
namespace Go.Proofs.Ytkgjmejpbklabaa

/-- the graph of edges (from, to): the tickets that stand in them, rising; of each place those that it waits for, rising -/
structure GIs (es : List (Int × Int)) (ts : List Int) (nx : List (List Nat)) : Prop where
  up : ts.Pairwise (· < ·)
  mem : ∀ x, x ∈ ts ↔ ∃ e ∈ es, x = e.1 ∨ x = e.2
  len : nx.length = ts.length
  row : ∀ i, (nx.getD i []).Pairwise (· < ·)
  ed : ∀ i v, v ∈ nx.getD i [] ↔ ∃ e ∈ es, ts[i]? = some e.1 ∧ ts[v]? = some e.2

theorem up_at {ts : List Int} (h : ts.Pairwise (· < ·)) {i j : Nat} {x : Int} (hi : ts[i]? = some x) (hj : ts[j]? = some x) : i = j := by
  obtain ⟨h1, e1⟩ := List.getElem?_eq_some_iff.1 hi
  obtain ⟨h2, e2⟩ := List.getElem?_eq_some_iff.1 hj
  have hp := List.pairwise_iff_getElem.1 h
  by_cases hc : i < j
  · have := hp i j h1 h2 hc; omega
  · by_cases hc2 : j < i
    · have := hp j i h2 h1 hc2; omega
    · omega
/-- two rising lists with the same elements are the same -/
theorem up_one : ∀ {l m : List Int}, l.Pairwise (· < ·) → m.Pairwise (· < ·) → (∀ x, x ∈ l ↔ x ∈ m) → l = m
  | [], [], _, _, _ => rfl
  | [], y :: m, _, _, h => by have := (h y).2 (by simp); simp at this
  | x :: l, [], _, _, h => by have := (h x).1 (by simp); simp at this
  | x :: l, y :: m, hl, hm, h => by
    have hl' := List.pairwise_cons.1 hl
    have hm' := List.pairwise_cons.1 hm
    have hxy : x = y := by
      have h1 := (h x).1 (by simp)
      have h2 := (h y).2 (by simp)
      rcases List.mem_cons.1 h1 with e | h1
      · exact e
      · rcases List.mem_cons.1 h2 with e | h2
        · exact e.symm
        · have := hm'.1 x h1
          have := hl'.1 y h2
          omega
    subst hxy
    rw [up_one hl'.2 hm'.2 fun z => ?_]
    constructor
    · intro hz
      rcases List.mem_cons.1 ((h z).1 (by simp [hz])) with e | h2
      · have := hl'.1 z hz; omega
      · exact h2
    · intro hz
      rcases List.mem_cons.1 ((h z).2 (by simp [hz])) with e | h2
      · have := hm'.1 z hz; omega
      · exact h2

/-- j of the edges have been noted, in whatever order -/
structure Gri (es : List (Int × Int)) (ts : List Int) (j : Nat) (bk : List (List Nat)) : Prop where
  len : bk.length = ts.length
  ed : ∀ i v, v ∈ bk.getD i [] ↔ ∃ e ∈ es.take j, ts[i]? = some e.1 ∧ ts[v]? = some e.2
  few : ∀ i, (bk.getD i []).length ≤ j
theorem Gri.start (es : List (Int × Int)) (ts : List Int) : Gri es ts 0 (List.replicate ts.length []) := by
  have e : ∀ v, (List.replicate ts.length ([] : List Nat)).getD v [] = [] := fun v => by
    by_cases h : v < ts.length <;> simp [List.getD, h]
  refine ⟨by simp, fun i v => ?_, fun i => ?_⟩
  · rw [e]; simp
  · rw [e]; simp
theorem Gri.put {es : List (Int × Int)} {ts : List Int} {j a b : Nat} {bk : List (List Nat)} {e : Int × Int} (h : Gri es ts j bk) (hup : ts.Pairwise (· < ·)) (hj : es[j]? = some e) (ha : ts[a]? = some e.1) (hb : ts[b]? = some e.2) : Gri es ts (j + 1) (bk.set a (bk.getD a [] ++ [b])) := by
  have hal : a < bk.length := by rw [h.len]; exact (List.getElem?_eq_some_iff.1 ha).1
  have ht : es.take (j + 1) = es.take j ++ [e] := by rw [List.take_add_one, hj]; rfl
  refine ⟨by simp [h.len], fun i v => ?_, fun i => ?_⟩
  · rw [ht, getD_set]
    by_cases hi : a = i
    · subst hi
      rw [if_pos ⟨rfl, hal⟩, List.mem_append, h.ed a v]
      constructor
      · rintro (⟨x, hx, h1, h2⟩ | hv)
        · exact ⟨x, by simp [hx], h1, h2⟩
        · simp at hv; subst hv
          exact ⟨e, by simp, ha, hb⟩
      · rintro ⟨x, hx, h1, h2⟩
        rcases List.mem_append.1 hx with hx | hx
        · exact .inl ⟨x, hx, h1, h2⟩
        · simp at hx; subst hx
          exact .inr (by simp [up_at hup h2 hb])
    · rw [if_neg (fun hc => hi hc.1), h.ed i v]
      constructor
      · rintro ⟨x, hx, h1, h2⟩; exact ⟨x, by simp [hx], h1, h2⟩
      · rintro ⟨x, hx, h1, h2⟩
        rcases List.mem_append.1 hx with hx | hx
        · exact ⟨x, hx, h1, h2⟩
        · simp at hx; subst hx
          exact absurd (up_at hup ha h1) hi
  · rw [getD_set]
    have h1 := h.few a
    have h2 := h.few i
    by_cases hi : a = i ∧ a < bk.length
    · rw [if_pos hi]; simp; simpa using h1
    · rw [if_neg hi]; omega
theorem Gri.lt {es : List (Int × Int)} {ts : List Int} {j : Nat} {bk : List (List Nat)} (h : Gri es ts j bk) {i v : Nat} (hv : v ∈ bk.getD i []) : v < ts.length := by
  obtain ⟨e, _, _, h2⟩ := (h.ed i v).1 hv
  exact (List.getElem?_eq_some_iff.1 h2).1

/-- all have been noted; the rows below i are rising -/
structure Grs (es : List (Int × Int)) (ts : List Int) (i : Nat) (bk : List (List Nat)) : Prop where
  len : bk.length = ts.length
  ed : ∀ i v, v ∈ bk.getD i [] ↔ ∃ e ∈ es, ts[i]? = some e.1 ∧ ts[v]? = some e.2
  few : ∀ i, (bk.getD i []).length ≤ es.length
  up : ∀ k, k < i → (bk.getD k []).Pairwise (· < ·)
theorem Gri.done {es : List (Int × Int)} {ts : List Int} {bk : List (List Nat)} (h : Gri es ts es.length bk) : Grs es ts 0 bk := ⟨h.len, fun i v => by rw [h.ed i v, List.take_length], h.few, fun k hk => by omega⟩
theorem Grs.put {es : List (Int × Int)} {ts : List Int} {i : Nat} {bk : List (List Nat)} (h : Grs es ts i bk) (hi : i < ts.length) {row : List Nat} (hu : row.Pairwise (· < ·)) (hm : ∀ v, v ∈ row ↔ v ∈ bk.getD i []) (hl : row.length ≤ (bk.getD i []).length) : Grs es ts (i + 1) (bk.set i row) := by
  have hil : i < bk.length := by rw [h.len]; exact hi
  refine ⟨by simp [h.len], fun k v => ?_, fun k => ?_, fun k hk => ?_⟩
  · rw [getD_set]
    by_cases hc : i = k
    · subst hc; rw [if_pos ⟨rfl, hil⟩, hm v, h.ed i v]
    · rw [if_neg (fun hx => hc hx.1), h.ed k v]
  · rw [getD_set]
    have h1 := h.few i
    have h2 := h.few k
    by_cases hc : i = k ∧ i < bk.length
    · rw [if_pos hc]; omega
    · rw [if_neg hc]; exact h2
  · rw [getD_set]
    by_cases hc : i = k
    · rw [if_pos ⟨hc, hil⟩]; exact hu
    · rw [if_neg (fun hx => hc hx.1)]; exact h.up k (by omega)
theorem Grs.done {es : List (Int × Int)} {ts : List Int} {bk : List (List Nat)} (h : Grs es ts ts.length bk) (hup : ts.Pairwise (· < ·)) (hm : ∀ x, x ∈ ts ↔ ∃ e ∈ es, x = e.1 ∨ x = e.2) : GIs es ts bk where
  up := hup
  mem := hm
  len := h.len
  row := fun i => by
    by_cases hi : i < ts.length
    · exact h.up i hi
    · have : bk.getD i [] = [] := by
        rw [List.getD, List.getElem?_eq_none (by rw [h.len]; omega)]; rfl
      rw [this]; simp
  ed := h.ed

/-- both sides of all edges -/
def ends (es : List (Int × Int)) : List Int := es.flatMap fun e => [e.1, e.2]
theorem ends_snoc (es : List (Int × Int)) (e : Int × Int) : ends (es ++ [e]) = ends es ++ [e.1, e.2] := by simp [ends]
theorem ends_length (es : List (Int × Int)) : (ends es).length = 2 * es.length := by
  induction es with
  | nil => rfl
  | cons e es ih => simp only [ends, List.flatMap_cons, List.length_append, List.length_cons, List.length_nil] at ih ⊢; omega
theorem ends_mem (es : List (Int × Int)) (x : Int) : x ∈ ends es ↔ ∃ e ∈ es, x = e.1 ∨ x = e.2 := by
  simp [ends]

theorem GIs.lt {es : List (Int × Int)} {ts : List Int} {nx : List (List Nat)} (h : GIs es ts nx) {u v : Nat} (hv : Ed nx u v) : u < ts.length ∧ v < ts.length := by
  obtain ⟨e, _, h1, h2⟩ := (h.ed u v).1 hv
  exact ⟨(List.getElem?_eq_some_iff.1 h1).1, (List.getElem?_eq_some_iff.1 h2).1⟩
/-- there is one alone -/
theorem GIs.one {es : List (Int × Int)} {ts ts' : List Int} {nx nx' : List (List Nat)} (h : GIs es ts nx) (h' : GIs es ts' nx') : ts = ts' ∧ ∀ u v, Ed nx u v ↔ Ed nx' u v := by
  have e : ts = ts' := up_one h.up h'.up fun x => by rw [h.mem, h'.mem]
  subst e
  exact ⟨rfl, fun u v => by unfold Ed; rw [h.ed, h'.ed]⟩

end Go.Proofs.Ytkgjmejpbklabaa
