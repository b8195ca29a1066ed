/-
  Layer 17: apart.
-/
import Derived.Test.YthcpnfelnonhnaaDoorTn
import Derived.Test.YthcpnfelnonhnaaDoorTe
namespace Go.Proofs.YthcpnfelnonhnaaDoor
open Go.RowKit

namespace W
/-- the lists below i are marked, and of list i the first k -/
structure Mkd (ls ls' : List (List En)) (i k : Nat) : Prop where
  len : ls'.length = ls.length
  each : ∀ (j : Nat) l, ls[j]? = some l → ∃ l', ls'[j]? = some l' ∧ l'.length = l.length ∧ EnsWf l' ∧ (j < i → l' = rp l.length j) ∧ (j = i → l'.take k = rp k i)
theorem Mkd.start {ls : List (List En)} (h : ∀ l ∈ ls, EnsWf l) : Mkd ls ls 0 0 := ⟨rfl, fun _ l hl => ⟨l, hl, rfl, h l (List.mem_of_getElem? hl), fun h => absurd h (Nat.not_lt_zero _), fun _ => rfl⟩⟩
theorem Mkd.set {ls ls' : List (List En)} {i k : Nat} {l l' : List En} (h : Mkd ls ls' i k) (hl : ls[i]? = some l) (hl' : ls'[i]? = some l') (hk : k < l.length) (hi : i ≤ 9000) : Mkd ls (ls'.set i (l'.set k (mkA i))) i (k + 1) := by
  obtain ⟨l2, e2, h1, h2, h3, h4⟩ := h.each i l hl
  rw [hl'] at e2; cases e2
  have hil := (List.getElem?_eq_some_iff.1 hl').1
  refine ⟨by rw [List.length_set]; exact h.len, fun j y hy => ?_⟩
  by_cases e : j = i
  · subst e
    rw [hl] at hy; cases hy
    refine ⟨l'.set k (mkA j), List.getElem?_set_self hil, by rw [List.length_set]; exact h1, fun x hx => ?_, fun h => absurd h (Nat.lt_irrefl _), fun _ => ?_⟩
    · rcases List.mem_or_eq_of_mem_set hx with h5 | h5
      · exact h2 x h5
      · rw [h5]; exact mkA_wf (by omega)
    · rw [List.take_succ_eq_append_getElem (by simpa [h1] using hk), List.take_set_of_le (Nat.le_refl _), h4 rfl, List.getElem_set_self]
      exact List.replicate_succ'.symm
  · obtain ⟨y', k1, k2, k3, k4, k5⟩ := h.each j y hy
    exact ⟨y', by rw [List.getElem?_set_ne (Ne.symm e)]; exact k1, k2, k3, k4, fun e' => absurd e' e⟩
theorem Mkd.next {ls ls' : List (List En)} {i k : Nat} {l : List En} (h : Mkd ls ls' i k) (hl : ls[i]? = some l) (hk : l.length ≤ k) : Mkd ls ls' (i + 1) 0 := by
  refine ⟨h.len, fun j y hy => ?_⟩
  obtain ⟨y', k1, k2, k3, k4, k5⟩ := h.each j y hy
  refine ⟨y', k1, k2, k3, fun hlt => ?_, fun _ => rfl⟩
  by_cases e : j = i
  · subst e
    rw [hl] at hy; cases hy
    have := k5 rfl
    rw [List.take_of_length_le (by omega)] at this
    have h6 := congrArg List.length this
    rw [List.length_replicate, k2] at h6
    rw [this, h6]
  · exact k4 (by omega)
end W
end Go.Proofs.YthcpnfelnonhnaaDoor
