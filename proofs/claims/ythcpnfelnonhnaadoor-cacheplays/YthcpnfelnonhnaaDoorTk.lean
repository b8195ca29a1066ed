/-
  Layer 17: apart: one more onto a list, and what lay ahead of it lies there still.
-/
import Derived.Test.YthcpnfelnonhnaaDoorTa
import Derived.Deep.AppendLies
namespace Go.Proofs.YthcpnfelnonhnaaDoor
open Go.RowKit

namespace W
/-- what an append leaves of the block it may write into -/
structure Stay (W W' : World) (u : Value) (n : Nat) : Prop where
  old : ∀ k cur, u.ownBlock = some k → W.heap[k]? = some (.cells cur 57 (0, 0)) → ∃ cur', W'.heap[k]? = some (.cells cur' 57 (0, 0)) ∧ cur'.size = cur.size ∧ cur'.toList.take (n * 34) = cur.toList.take (n * 34)
/-- a shorter row in the same block lies as it did -/
theorem Stay.row {W W' : World} {u u0 : Value} {n : Nat} {l0 : List En} (h : Stay W W' u n) (h0 : EOwn 57 W 0 u0 l0) (he : u0.ownBlock = u.ownBlock) (hn : l0.length ≤ n) : EOwn 57 W' 0 u0 l0 := by
  rcases h0.2 with ⟨e1, e2⟩ | ⟨g, cap, cur, e, hb, hg, h1, h2, h3, h4⟩
  · exact ⟨h0.1, .inl ⟨e1, e2⟩⟩
  · subst e
    obtain ⟨cur', k1, k2, k3⟩ := h.old g cur he.symm hg
    refine ⟨h0.1, .inr ⟨g, cap, cur', rfl, hb, k1, h1, h2, by rw [k2]; exact h3, ?_⟩⟩
    have e : ∀ l : List Value, l.take (l0.length * 34) = (l.take (n * 34)).take (l0.length * 34) := fun l => by rw [List.take_take, Nat.min_eq_left (Nat.mul_le_mul_right _ hn)]
    rw [e, k3, ← e]
    exact h4
/-- one more, onto a row of ours: what lay in it lies there still -/
theorem app_stay {W : World} {u : Value} {l : List En} {x : En} (h : EOwn 57 W 0 u l) (hx : x.Wf) (hn : l.length ≤ 5000) :
    ∃ g cap W', (Builtin.append_ #[60, 60] 60 #[u, .slice (some ⟨W.heap.size, 0, none⟩) 1 1]).run Tryd.prog (W.alloc (.cells (ecells x).toArray 57)) = .ok (.slice (some ⟨g, 0, none⟩) (l.length + 1) cap) W' ∧ EOwn 57 W' 0 (.slice (some ⟨g, 0, none⟩) (l.length + 1) cap) (l ++ [x]) ∧ (W.alloc (.cells (ecells x).toArray 57)).grownBy W' u.ownBlock ∧ (u.ownBlock = some g ∨ g = (W.alloc (.cells (ecells x).toArray 57)).heap.size) ∧ Stay (W.alloc (.cells (ecells x).toArray 57)) W' u l.length := by
  obtain ⟨i, hi, hz, hsize, hby⟩ := info_parts etC.inf
  have hml : 10000 ≤ maxLen := by decide
  have hxl : (ecells x).length = 1 * 34 := by rw [ecells_len hx.len]
  have hnews : ∀ j v, (ecells x)[j]? = some v → (W.alloc (.cells (ecells x).toArray 57)).cell? ((⟨W.heap.size, 0, none⟩ : Addr).add j) = some v := cells_newE W (ecells x) 57
  have hown := World.ownsRow.alloc h (.cells (ecells x).toArray 57)
  obtain ⟨g, cap, w', hr, h2, h3, h4, h5⟩ := run_append_lies (P := Tryd.prog) (W.alloc (.cells (ecells x).toArray 57)) 60 60 0 57 i _ 34 48 etC.ut hi hz hsize hby rfl (by omega) u l.length (EC l) hown ⟨W.heap.size, 0, none⟩ 1 1 (ecells x) hxl hnews (ecells_ones x) (by omega) (by omega) (by omega) (by simp) _ rfl
  refine ⟨g, cap, w', hr, by rw [EOwn, List.length_append, List.length_singleton, EC_snoc]; exact h2, h3, h4, ⟨fun k cur hk hc => ?_⟩⟩
  rcases hown.2 with ⟨rfl, _⟩ | ⟨g', cap', cur', rfl, hbg, hg, hnc, hcm, hcs, htake⟩
  · cases hk
  · obtain rfl : g' = k := by simpa [Value.ownBlock] using hk
    rw [hg] at hc
    cases hc
    by_cases hroom : l.length + 1 ≤ cap'
    · have hfit : l.length * i.size + (ecells x).length ≤ cur.size := by rw [hxl, hcs, hsize]; have := Nat.mul_le_mul_right 34 hroom; omega
      have hr2 := run_append_room (P := Tryd.prog) _ 60 60 57 i etC.ut hi g' l.length cap' cur hg ⟨W.heap.size, 0, none⟩ 1 1 (ecells x) (by rw [hsize]; exact hxl) hnews (ecells_ones x) hroom hfit
      rw [hr2] at hr
      simp only [Result.ok.injEq] at hr
      rw [← hr.2]
      have hlc : cur.toList.length = cap' * 34 := by rw [← hcs]; exact Array.length_toList
      have h34 := Nat.mul_le_mul_right 34 hnc
      have h35 := Nat.mul_le_mul_right 34 hroom
      refine ⟨_, setRow_heap _ g' cur _ 57 _ hg, ?_, ?_⟩
      · simp [hsize, hxl]
        omega
      · simp only [hsize]
        rw [List.append_assoc, List.take_append_of_le_length (by rw [List.length_take]; omega), List.take_take, Nat.min_self]
    · have holds : ∀ j v, (EC l)[j]? = some v → (W.alloc (.cells (ecells x).toArray 57)).cell? ((⟨g', 0, none⟩ : Addr).add j) = some v := hown.cells (g := g') rfl
      have hr2 := run_append_grow (P := Tryd.prog) (W.alloc (.cells (ecells x).toArray 57)) 60 60 57 i _ etC.ut hi hz ⟨g', 0, none⟩ l.length cap' (EC l) (by rw [hsize]; exact hown.1) holds ⟨W.heap.size, 0, none⟩ 1 1 (ecells x) (by rw [hsize]; exact hxl) hnews (by omega) (by omega) (growslice_fits (by omega) (by rw [hby]; omega))
      rw [hr2] at hr
      simp only [Result.ok.injEq] at hr
      rw [← hr.2]
      have hlt := (Array.getElem?_eq_some_iff.1 hg).1
      exact ⟨cur, (Below.heap_alloc (W.alloc (.cells (ecells x).toArray 57)).drew _ g' hlt).trans hg, rfl, rfl⟩
end W
end Go.Proofs.YthcpnfelnonhnaaDoor
