/-
  Layer 17: apart: a list is marked.
-/
import Derived.Test.YthcpnfelnonhnaaDoorTk
import Derived.Test.YthcpnfelnonhnaaDoorTb
namespace Go.Proofs.YthcpnfelnonhnaaDoor
open Go.RowKit

namespace W
/-- one entry of one list is written -/
theorem PS.mark {w0 w : World} {P : Nat} {cs : Array Value} {T : Nat → Th} {G : Nat → Prop} {v u : Value} {us : List Value} {ls : List (List En)} {l : List En} {i k : Nat} {x : En} (h : PS w0 w P cs T G) (e4 : T 4 = .lc v us ls) (hu : us[i]? = some u) (hl : ls[i]? = some l) (hw : EnsWf l) (hk : k < l.length) (hx : x.Wf) :
    ∃ gb cb W', u = .slice (some ⟨gb, 0, none⟩) l.length cb ∧ (Instr.storeAt 57 (.pointer (some ⟨gb, k * 34, none⟩)) (.agg (ecells x).toArray)).run Tryd.prog w = .ok () W' ∧ PS w0 W' P cs (put T 4 (.lc v us (ls.set i (l.set k x)))) G := by
  have hL : Ls w true 60 57 34 (fun l : List En => l.length) EC v us ls := h.ls (by decide) e4
  have hr : EOwn 57 w 0 u l := hL.each rfl i u l hu hl
  obtain ⟨p', cb, e', hc', hg'⟩ := O.own_form hr
  obtain ⟨gb, rfl⟩ := hg' (by omega)
  subst e'
  obtain ⟨W', hst, ho, hgr⟩ := EOwn.put etC hr hw x hx k hk
  have hset : l.take k ++ [x] ++ l.drop (k + 1) = l.set k x := by rw [List.set_eq_take_append_cons_drop, if_pos hk]; simp
  rw [hset] at ho
  have hkk := O.kept_grown (v := .slice (some ⟨gb, 0, none⟩) l.length cb) hgr
  have hil := (List.getElem?_eq_some_iff.1 hl).1
  refine ⟨gb, cb, W', rfl, hst, h.turn (i := 4) (by decide) (t := .lc v us (ls.set i (l.set k x))) (G' := G) (S := fun b => (Value.slice (some ⟨gb, 0, none⟩) l.length cb).ownBlock = some b) ⟨?_, ?_, ?_, ?_, hL.sep⟩ hkk (fun b hb => by rw [e4]; exact .inr ⟨_, List.mem_of_getElem? hu, hb⟩) (fun b hb => .inl (by rw [e4]; exact hb)) (fun _ hg => hg) (fun _ hg => .inl hg)⟩
  · exact O.own_far hL.row hkk (fun b hb hs => O.own_ne hL.row hr (by decide) hb hs)
  · rw [List.length_set]; exact hL.len
  · exact fun y hy b hb => Nat.lt_of_lt_of_le (hL.ltu y hy b hb) hkk.size
  · intro _ j y f hy hf
    by_cases e : j = i
    · subst e
      rw [hu] at hy
      cases hy
      rw [List.getElem?_set_self hil] at hf
      cases hf
      have := ho
      rw [EOwn, List.length_set] at this
      show World.ownsRow _ _ _ _ _ _ _
      rw [List.length_set]
      exact this
    · rw [List.getElem?_set_ne (Ne.symm e)] at hf
      refine O.own_far (hL.each rfl j y f hy hf) hkk (fun b hb hs => ?_)
      rcases Nat.lt_or_ge j i with hlt | hge
      · have hj := (List.getElem?_eq_some_iff.1 hy)
        have hi' := (List.getElem?_eq_some_iff.1 hu)
        exact (List.pairwise_iff_getElem.1 hL.sep j i hj.1 hi'.1 hlt) b (by rw [hj.2]; exact hb) (by rw [hi'.2]; exact hs)
      · have hj := (List.getElem?_eq_some_iff.1 hy)
        have hi' := (List.getElem?_eq_some_iff.1 hu)
        exact (List.pairwise_iff_getElem.1 hL.sep i j hi'.1 hj.1 (by omega)) b (by rw [hi'.2]; exact hs) (by rw [hj.2]; exact hb)
end W
end Go.Proofs.YthcpnfelnonhnaaDoor
