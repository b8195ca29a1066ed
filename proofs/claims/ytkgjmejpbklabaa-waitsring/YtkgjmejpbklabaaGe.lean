/-
  Layer 15: lists in a list, each one grown; turned.
-/
import Derived.Test.YtkgjmejpbklabaaGc
import Derived.Deep.CutBlock
namespace Go.Proofs.Ytkgjmejpbklabaa
open Go.RowKit

open B (IIn I64)

/-- lists of the call's own in a list of its own, all apart -/
structure Rws (w : World) (base g n : Nat) (vs : List Value) (bk : List (List Nat)) : Prop where
  lv : vs.length = n
  lb : bk.length = n
  top : w.ownsRow base 34 1 (.slice (some ⟨g, 0, none⟩) n n) n vs
  row : ∀ i, i < n → w.ownsRow base 3 1 (vs.getD i nils) (bk.getD i []).length (I64 (nz (bk.getD i [])))
  apart : ∀ i j b, i < n → j < n → (vs.getD i nils).ownBlock = some b → (vs.getD j nils).ownBlock = some b → i = j
theorem Rws.start {w : World} {base g n : Nat} (h : w.ownsRow base 34 1 (.slice (some ⟨g, 0, none⟩) n n) n (List.replicate n nils)) : Rws w base g n (List.replicate n nils) (List.replicate n []) := by
  have e1 : ∀ i, (List.replicate n nils).getD i nils = nils := fun i => by by_cases h : i < n <;> simp [List.getD, h]
  have e2 : ∀ i, (List.replicate n ([] : List Nat)).getD i [] = [] := fun i => by by_cases h : i < n <;> simp [List.getD, h]
  refine ⟨by simp, by simp, h, fun i _ => ?_, fun i j b _ _ h1 => ?_⟩
  · rw [e1, e2]; exact World.ownsRow_nil _ _ _ _
  · rw [e1] at h1; cases h1
theorem Rws.keeps {w w' : World} {base g n : Nat} {vs : List Value} {bk : List (List Nat)} (h : Rws w base g n vs bk) (hk : ∀ k, base ≤ k → k < w.heap.size → w'.heap[k]? = w.heap[k]?) : Rws w' base g n vs bk :=
  { h with
    top := O.own_keeps h.top fun k hk2 => hk k (h.top.lt k hk2).1 (h.top.lt k hk2).2
    row := fun i hi => O.own_keeps (h.row i hi) fun k hk2 => hk k ((h.row i hi).lt k hk2).1 ((h.row i hi).lt k hk2).2 }
theorem Rws.later {w w' : World} {base g n : Nat} {vs : List Value} {bk : List (List Nat)} (h : Rws w base g n vs bk) (hb : RowKit.Below w.heap.size w w') : Rws w' base g n vs bk := h.keeps fun k _ hk => hb.block k hk
/-- one list is grown by one place, and put back -/
theorem Rws.put {w w' : World} {base g n : Nat} {vs : List Value} {bk : List (List Nat)} (h : Rws w base g n vs bk) {i x : Nat} (hi : i < n) {v' : Value} (ho : w'.ownsRow base 3 1 v' ((bk.getD i []).length + 1) (I64 (nz (bk.getD i [])) ++ [.int .i64 (x : Int)]))
    (hk : Kept (fun b => (vs.getD i nils).ownBlock = some b) w w') (hv : ∀ b, v'.ownBlock = some b → (vs.getD i nils).ownBlock = some b ∨ w.heap.size ≤ b) :
    Rws (w'.setCell ⟨g, i, none⟩ v') base g n (vs.set i v') (bk.set i (bk.getD i [] ++ [x])) := by
  have hg : ∀ j, j < n → (vs.getD j nils).ownBlock ≠ some g := fun j hj hc => O.own_ne (h.row j hj) h.top (by decide) hc rfl
  have ht : w'.ownsRow base 34 1 (.slice (some ⟨g, 0, none⟩) n n) n vs := O.own_far h.top hk fun b hb hc => hg i hi (by simp [Value.ownBlock] at hb; rw [hb]; exact hc)
  have hs : Kept (· = g) w' (w'.setCell ⟨g, i, none⟩ v') := Kept.setCell g i v'
  have hvg : v'.ownBlock ≠ some g := fun hc => O.own_ne ho ht (by decide) hc rfl
  have e1 : ∀ j, (vs.set i v').getD j nils = if i = j then v' else vs.getD j nils := fun j => by
    rw [getD_set]
    by_cases hj : i = j
    · rw [if_pos ⟨hj, by rw [h.lv]; exact hi⟩, if_pos hj]
    · rw [if_neg (fun hc => hj hc.1), if_neg hj]
  have e2 : ∀ j, (bk.set i (bk.getD i [] ++ [x])).getD j [] = if i = j then bk.getD i [] ++ [x] else bk.getD j [] := fun j => by
    rw [getD_set]
    by_cases hj : i = j
    · rw [if_pos ⟨hj, by rw [h.lb]; exact hi⟩, if_pos hj]
    · rw [if_neg (fun hc => hj hc.1), if_neg hj]
  refine ⟨by simp [h.lv], by simp [h.lb], O.own_set ht rfl i v', fun j hj => ?_, fun j l b hj hl h1 h2 => ?_⟩
  · rw [e1, e2]
    by_cases hij : i = j
    · rw [if_pos hij, if_pos hij, List.length_append, nz_append, I64_append]
      exact O.own_far ho hs fun b hb e => hvg (e ▸ hb)
    · rw [if_neg hij, if_neg hij]
      refine O.own_far (O.own_far (h.row j hj) hk fun b hb hc => hij (h.apart i j b hi hj hc hb)) hs fun b hb e => hg j hj (e ▸ hb)
  · rw [e1] at h1 h2
    have old : ∀ m, m < n → i ≠ m → (vs.getD m nils).ownBlock = some b → v'.ownBlock = some b → False := fun m hm hne h3 h4 => by
      rcases hv b h4 with h5 | h5
      · exact hne (h.apart i m b hi hm h5 h3)
      · have := ((h.row m hm).lt b h3).2; omega
    by_cases hij : i = j
    · rw [if_pos hij] at h1
      by_cases hil : i = l
      · rw [← hij, hil]
      · rw [if_neg hil] at h2
        exact (old l hl hil h2 h1).elim
    · rw [if_neg hij] at h1
      by_cases hil : i = l
      · rw [if_pos hil] at h2
        exact (old j hj hij h1 h2).elim
      · rw [if_neg hil] at h2
        exact h.apart j l b hj hl h1 h2
/-- read as a graph's lists -/
theorem Rws.nin {w : World} {base g n : Nat} {vs : List Value} {bk : List (List Nat)} (h : Rws w base g n vs bk) : NIn (fun k => base ≤ k ∧ k < w.heap.size) w (.slice (some ⟨g, 0, none⟩) n n) bk := by
  have hg := h.top.lt g rfl
  refine ⟨g, n, by rw [h.lb], hg, hg.2, fun i hi => ?_⟩
  rw [h.lb] at hi
  have hr := h.row i hi
  obtain ⟨p, c, e, hI, _, _, hlt⟩ := B.ints_in hr
  refine ⟨p, c, ?_, hI, fun a ha h0 => ?_⟩
  · rw [O.own_cell h.top (show vs[i]? = some (.slice p (bk.getD i []).length c) by rw [← e]; simp [List.getD, show i < vs.length by rw [h.lv]; exact hi])]
  · have := hlt a ha
    exact ⟨this.1, this.2⟩
end Go.Proofs.Ytkgjmejpbklabaa
