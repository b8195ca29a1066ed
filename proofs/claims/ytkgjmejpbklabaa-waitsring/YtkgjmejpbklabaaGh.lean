/-
  Layer 15: a list in a list is grown by one place: what a region does to the lists.
-/
import Derived.Test.YtkgjmejpbklabaaGe
import Derived.Test.YtkgjmejpbklabaaZa
namespace Go.Proofs.Ytkgjmejpbklabaa
open Go.RowKit

open B (IIn I64)

/-- behind 'append' onto one of the lists, and behind its being put back -/
theorem Rws.grown {we w' : World} {base g n u i : Nat} {vs : List Value} {bk : List (List Nat)} {v' : Value} (h : Rws we base g n vs bk) (hu : u < n) (ho : w'.ownsRow base 3 1 v' ((bk.getD u []).length + 1) (I64 (nz (bk.getD u [])) ++ [.int .i64 (i : Int)]))
    (hk : Kept (fun b => (vs.getD u nils).ownBlock = some b) (we.alloc (Obj.cells #[Value.int .i64 (i : Int)] 3)) w') (hv : v'.ownBlock = (vs.getD u nils).ownBlock ∨ v'.ownBlock = some (we.alloc (Obj.cells #[Value.int .i64 (i : Int)] 3)).heap.size) :
    (∀ b (x y : Value), GBx we b x y → GBx w' b x y) ∧ w'.ownsRow base 34 1 (.slice (some ⟨g, 0, none⟩) n n) n vs ∧ Rws (w'.setCell ⟨g, u, none⟩ v') base g n (vs.set u v') (bk.set u (bk.getD u [] ++ [i])) ∧ (∀ b (x y : Value), GBx we b x y → GBx (w'.setCell ⟨g, u, none⟩ v') b x y) ∧
      (∀ (w0 : World), RowKit.Below w0.heap.size w0 we → w0.heap.size ≤ base → RowKit.Below w0.heap.size w0 (w'.setCell ⟨g, u, none⟩ v')) := by
  have hrw := h.row u hu
  have hkw : Kept (fun b => (vs.getD u nils).ownBlock = some b) we w' := (Kept.of_below _ (below_alloc we _)).trans hk fun _ _ h => h
  have hvw : ∀ b, v'.ownBlock = some b → (vs.getD u nils).ownBlock = some b ∨ we.heap.size ≤ b := fun b hb => by
    rcases hv with h | h
    · exact .inl (h ▸ hb)
    · rw [hb] at h; simp at h; exact .inr (by omega)
  have hg1 : ∀ b (x y : Value), GBx we b x y → GBx w' b x y := fun b x y hb => hb.far hkw fun hc => O.own_not hrw hb (by decide) hc
  have htop : w'.ownsRow base 34 1 (.slice (some ⟨g, 0, none⟩) n n) n vs := O.own_far h.top hkw fun z hz hc => by
    simp [Value.ownBlock] at hz
    subst hz
    exact O.own_ne hrw h.top (by decide) hc rfl
  refine ⟨hg1, htop, h.put hu ho hkw hvw, fun b x y hb => (hg1 b x y hb).far (Kept.setCell g u v') fun e => ?_, fun w0 hb0 hle => ?_⟩
  · subst e
    exact O.own_not htop (hg1 _ _ _ hb) (by decide) rfl
  · have h1 : RowKit.Below w0.heap.size w0 w' := Kept.into hkw hb0 (fun b hb hc => by have := (hrw.lt b hc).1; omega) (Nat.le_refl _)
    exact h1.setCell (Nat.le_trans hle (h.top.lt g rfl).1) v'
theorem Rws.cell {w : World} {base g n : Nat} {vs : List Value} {bk : List (List Nat)} (h : Rws w base g n vs bk) {u : Nat} (hu : u < n) : ∃ pv cv, vs.getD u nils = .slice pv (bk.getD u []).length cv ∧ vs[u]? = some (.slice pv (bk.getD u []).length cv) ∧ w.cell? ⟨g, u, none⟩ = some (.slice pv (bk.getD u []).length cv) := by
  obtain ⟨pv, cv, ev⟩ := O.own_shape (h.row u hu)
  have hvu : vs[u]? = some (.slice pv (bk.getD u []).length cv) := by rw [← ev]; simp [List.getD, show u < vs.length by rw [h.lv]; exact hu]
  exact ⟨pv, cv, ev, hvu, O.own_cell h.top hvu⟩
end Go.Proofs.Ytkgjmejpbklabaa
