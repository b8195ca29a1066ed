/-
  Layer 17: frames, marks, one more sequence.
-/
import Derived.Test.YthcpnfelnonhnaaDoorTb
import Derived.Test.YthcpnfelnonhnaaDoorZb
namespace Go.Proofs.YthcpnfelnonhnaaDoor
open Go.RowKit

open Go.Shelf
namespace W
/-- what stands in a slot -/
def slotAt (a : Act) (i : Nat) : Value := a.tmps.getD i undef
theorem list_slots (l : List Value) (n : Nat) (h : l.length = n) : l = (List.range n).map fun i => l.getD i undef := by
  apply List.ext_getElem
  · simp [h]
  · intro i h1 h2
    simp [List.getD, h1]
theorem frame_slots (a : Act) (h : a.tmps.size = 196) : a = { tmps := #[slotAt a 0, slotAt a 1, slotAt a 2, slotAt a 3, slotAt a 4, slotAt a 5, slotAt a 6, slotAt a 7, slotAt a 8, slotAt a 9, slotAt a 10, slotAt a 11, slotAt a 12, slotAt a 13, slotAt a 14, slotAt a 15, slotAt a 16, slotAt a 17, slotAt a 18, slotAt a 19, slotAt a 20, slotAt a 21, slotAt a 22, slotAt a 23, slotAt a 24, slotAt a 25, slotAt a 26, slotAt a 27, slotAt a 28, slotAt a 29, slotAt a 30, slotAt a 31, slotAt a 32, slotAt a 33, slotAt a 34, slotAt a 35, slotAt a 36, slotAt a 37, slotAt a 38, slotAt a 39, slotAt a 40, slotAt a 41, slotAt a 42, slotAt a 43, slotAt a 44, slotAt a 45, slotAt a 46, slotAt a 47, slotAt a 48, slotAt a 49, slotAt a 50, slotAt a 51, slotAt a 52, slotAt a 53, slotAt a 54, slotAt a 55, slotAt a 56, slotAt a 57, slotAt a 58, slotAt a 59, slotAt a 60, slotAt a 61, slotAt a 62, slotAt a 63, slotAt a 64, slotAt a 65, slotAt a 66, slotAt a 67, slotAt a 68, slotAt a 69, slotAt a 70, slotAt a 71, slotAt a 72, slotAt a 73, slotAt a 74, slotAt a 75, slotAt a 76, slotAt a 77, slotAt a 78, slotAt a 79, slotAt a 80, slotAt a 81, slotAt a 82, slotAt a 83, slotAt a 84, slotAt a 85, slotAt a 86, slotAt a 87, slotAt a 88, slotAt a 89, slotAt a 90, slotAt a 91, slotAt a 92, slotAt a 93, slotAt a 94, slotAt a 95, slotAt a 96, slotAt a 97, slotAt a 98, slotAt a 99, slotAt a 100, slotAt a 101, slotAt a 102, slotAt a 103, slotAt a 104, slotAt a 105, slotAt a 106, slotAt a 107, slotAt a 108, slotAt a 109, slotAt a 110, slotAt a 111, slotAt a 112, slotAt a 113, slotAt a 114, slotAt a 115, slotAt a 116, slotAt a 117, slotAt a 118, slotAt a 119, slotAt a 120, slotAt a 121, slotAt a 122, slotAt a 123, slotAt a 124, slotAt a 125, slotAt a 126, slotAt a 127, slotAt a 128, slotAt a 129, slotAt a 130, slotAt a 131, slotAt a 132, slotAt a 133, slotAt a 134, slotAt a 135, slotAt a 136, slotAt a 137, slotAt a 138, slotAt a 139, slotAt a 140, slotAt a 141, slotAt a 142, slotAt a 143, slotAt a 144, slotAt a 145, slotAt a 146, slotAt a 147, slotAt a 148, slotAt a 149, slotAt a 150, slotAt a 151, slotAt a 152, slotAt a 153, slotAt a 154, slotAt a 155, slotAt a 156, slotAt a 157, slotAt a 158, slotAt a 159, slotAt a 160, slotAt a 161, slotAt a 162, slotAt a 163, slotAt a 164, slotAt a 165, slotAt a 166, slotAt a 167, slotAt a 168, slotAt a 169, slotAt a 170, slotAt a 171, slotAt a 172, slotAt a 173, slotAt a 174, slotAt a 175, slotAt a 176, slotAt a 177, slotAt a 178, slotAt a 179, slotAt a 180, slotAt a 181, slotAt a 182, slotAt a 183, slotAt a 184, slotAt a 185, slotAt a 186, slotAt a 187, slotAt a 188, slotAt a 189, slotAt a 190, slotAt a 191, slotAt a 192, slotAt a 193, slotAt a 194, slotAt a 195], defers := a.defers } := by
  obtain ⟨⟨l⟩, d⟩ := a
  have e := list_slots l 196 (by simpa using h)
  have e2 : ∀ i, slotAt ⟨⟨l⟩, d⟩ i = l.getD i undef := fun i => by simp [slotAt]
  simp only [e2, Act.mk.injEq, and_true, Array.mk.injEq]
  exact e
/-- the marks that loops over functions leave -/
abbrev dmark (D : Nat) : Deferred := { target := .collected D, args := #[] }
structure Marks (N : Nat) (w : World) (ds : List Nat) : Prop where
  open' : ∀ D ∈ ds, N ≤ D ∧ w.heap[D]? = some (.deferred (some []))
  apart : ds.Nodup
section
variable {w w' : World}
theorem Marks.nil (N : Nat) (w : World) : Marks N w [] := ⟨fun _ h => (by cases h), List.nodup_nil⟩
theorem Marks.later {N : Nat} {ds : List Nat} (h : Marks N w ds) (hb : Below w.heap.size w w') : Marks N w' ds := ⟨fun D hD => ⟨(h.open' D hD).1, (hb.block D (Array.getElem?_eq_some_iff.1 (h.open' D hD).2).1).trans (h.open' D hD).2⟩, h.apart⟩
theorem Marks.cons {N D : Nat} {ds : List Nat} {W : World} (h : Marks N w ds) (hb : Below w.heap.size w W) (hD : w.heap.size ≤ D) (hN : N ≤ w.heap.size) (ho : W.heap[D]? = some (.deferred (some []))) : Marks N W (D :: ds) := by
  refine ⟨fun E hE => ?_, List.nodup_cons.2 ⟨fun hE => ?_, h.apart⟩⟩
  · rcases List.mem_cons.1 hE with rfl | hE
    · exact ⟨by omega, ho⟩
    · exact (h.later hb).open' E hE
  · have := (Array.getElem?_eq_some_iff.1 (h.open' D hE).2).1
    omega
end
theorem leaves_marks {F : Fence} {r : Nat} {fn : Func} {tmps : Array Value} {R : Ending → World → Prop} {N : Nat} (w0 : World) (hz : w0.heap.size = N) : ∀ (ds : List Nat) (w : World), Marks N w ds → Below N w0 w → (∀ w', Below N w0 w' → LeavesInM F r Tryd.prog fn tmps R [] .returning w') → LeavesInM F r Tryd.prog fn tmps R (ds.map dmark) .returning w
  | [], w, _, hb, h => h w hb
  | D :: ds, w, hm, hb, h => by
    have hD := hm.open' D (by simp)
    refine ⟨by simp, .inl ⟨D, _, rfl, run_takeDeferred hD.2, leaves_marks w0 hz ds _ ⟨fun E hE => ?_, (List.nodup_cons.1 hm.apart).2⟩ (hb.trans (belowK_b (w := w0) (by omega) _ D _ _ (by omega) hD.2 rfl rfl)) h⟩⟩
    have hE' := hm.open' E (List.mem_cons_of_mem _ hE)
    refine ⟨hE'.1, (World.putObj_heap_other ?_).trans hE'.2⟩
    rintro rfl
    exact (List.nodup_cons.1 hm.apart).1 hE
/-- a cell of the same block is set in both -/
theorem below_set {N B : Nat} {t : TypeId} {u v : Value} {w w' : World} (h : Below N w w') (hB : B < N) (hw : w.heap[B]? = some (.cells #[u] t (0, 0))) : Below N (w.setCell ⟨B, 0, none⟩ v) (w'.setCell ⟨B, 0, none⟩ v) := by
  have hw' : w'.heap[B]? = some (.cells #[u] t (0, 0)) := (h.block B hB).trans hw
  have k1 := Kept.setCell (w := w) B 0 v
  have k2 := Kept.setCell (w := w') B 0 v
  have s1 : (w.setCell ⟨B, 0, none⟩ v).heap.size = w.heap.size := by rw [setCell_eq_setRow w B 0 _ t (0, 0) v hw]; simp [World.setRow]
  refine ⟨k2.os.trans (h.os.trans k1.os.symm), k2.tape.trans (h.tape.trans k1.tape.symm), k2.output.trans (h.output.trans k1.output.symm), by rw [s1]; exact Nat.le_trans h.size k2.size, fun k hk => ?_⟩
  by_cases e : k = B
  · subst e
    rw [setCell_eq_setRow w k 0 _ t (0, 0) v hw, setCell_eq_setRow w' k 0 _ t (0, 0) v hw']
    rw [setRow_heap w k _ _ t _ hw, setRow_heap w' k _ _ t _ hw']
  · by_cases hl : k < w.heap.size
    · rw [k2.block k (Nat.lt_of_lt_of_le hl h.size) e, h.block k hk, k1.block k hl e]
    · have e1 : w.heap[k]? = none := Array.getElem?_eq_none (by omega)
      have e2 : (w.setCell ⟨B, 0, none⟩ v).heap[k]? = none := Array.getElem?_eq_none (by omega)
      have e3 : w'.heap[k]? = none := (h.block k hk).trans e1
      have e4 : w'.heap.size ≤ k := Nat.le_of_not_lt fun h2 => by rw [Array.getElem?_eq_getElem h2] at e3; cases e3
      have s2 : (w'.setCell ⟨B, 0, none⟩ v).heap.size = w'.heap.size := by rw [setCell_eq_setRow w' B 0 _ t (0, 0) v hw']; simp [World.setRow]
      rw [e2]; exact Array.getElem?_eq_none (by omega)
section
variable {w0 w : World} {P : Nat} {cs : Array Value} {T : Nat → Th} {G : Nat → Prop}
/-- a sequence whose box lay loose -/
theorem PS.appQ2 {tt : TypeId} {bytes : Nat} {v : Value} {bs : List (Nat × Nat)} {B X Q : Nat} (E : O.ElT tt 83 1 bytes) (h : PS w0 w P cs T G) (e6 : T 6 = .sq v bs) (e9 : T 9 = .one 83 B (seqV X)) (e14 : T 14 = .one 24 X (qp Q)) (hl : bs.length + 1 ≤ 10000) :
    ∃ v' w', (Builtin.append_ #[tt, tt] tt #[v, .slice (some ⟨B, 0, none⟩) 1 1]).run Tryd.prog w = .ok v' w' ∧ (∃ p' c', v' = .slice p' (bs.length + 1) c') ∧ PS w0 w' P cs (put (put T 14 .no) 6 (.sq v' (bs ++ [(X, Q)]))) (fun x => G x ∨ x = X) := by
  have hX : w.heap[X]? = some (.cells #[qp Q] 24 (0, 0)) := by have := h.fam.at' 14 (by decide); rw [e14] at this; exact this
  have hO : w.heap[B]? = some (.cells #[seqV X] 83 (0, 0)) := by have := h.fam.at' 9 (by decide); rw [e9] at this; exact this
  have f14 : (T 14).foot X := by rw [e14]; exact rfl
  have h1 : PS w0 w P cs (put T 14 .no) G := h.add trivial fun _ hb => hb.elim
  have h2 : PS w0 w P cs (put T 14 .no) (fun x => G x ∨ x = X) := h1.still (fun _ hg => .inl hg) (fun x hx => hx.elim (fun hg => h.fam.glt x hg) (fun e => e ▸ (Array.getElem?_eq_some_iff.1 hX).1)) (fun x hx hn => by
    rcases hx with hx | rfl
    · exact absurd hx hn
    · refine ⟨fun e => h.pf 14 (by decide) (e ▸ f14), fun j hj hb => ?_⟩
      by_cases e : j = 14
      · subst e; rw [put_same] at hb; exact hb
      · rw [put_other _ _ e] at hb; exact h.fam.apart j 14 hj (by decide) e x hb f14)
  exact h2.appQ E (i := 6) (by decide) (by rw [put_other _ _ (by decide)]; exact e6) hO (.inr rfl) hX hl
end
end W
end Go.Proofs.YthcpnfelnonhnaaDoor
