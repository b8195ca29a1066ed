/-
  Layer 14: LockAlone.
-/
import Derived.Test.YtkffmglcllhbmaaKm
import Derived.Deep.OwnRows
namespace Go.Proofs.Ytkffmglcllhbmaa
open Go.RowKit

/-- a row by a function -/
def frow (f : Nat → Value) (K : Nat) : List Value := (List.range K).map f
theorem frow_set (f : Nat → Value) (K k : Nat) (v : Value) : (frow f K).set k v = frow (upd f k v) K := by
  apply List.ext_getElem
  · simp [frow]
  · intro i h1 h2
    rw [List.getElem_set]
    simp only [frow, List.getElem_map, List.getElem_range, upd]
    by_cases e : k = i
    · subst e; simp
    · rw [if_neg e, if_neg (fun e2 => e e2.symm)]
theorem frow_made (z : Value) (K : Nat) : madeCells #[z] K = (frow (fun _ => z) K).toArray := by
  apply Array.ext
  · simp [size_madeCells, frow]
  · intro i h1 h2
    simp [madeCells, frow, Nat.mod_one]
theorem frow_cell {w : World} {b K i : Nat} {f : Nat → Value} {ty : TypeId} (h : w.heap[b]? = some (.cells (frow f K).toArray ty (0, 0))) (hi : i < K) : w.cell? ⟨b, i, none⟩ = some (f i) := by
  rw [cell_of_row _ b i _ ty (0, 0) h]
  simp [frow, hi]
theorem frow_put {w : World} {b K : Nat} {f : Nat → Value} {ty : TypeId} (h : w.heap[b]? = some (.cells (frow f K).toArray ty (0, 0))) (k : Nat) (v : Value) : (w.setCell ⟨b, k, none⟩ v).heap[b]? = some (.cells (frow (upd f k v) K).toArray ty (0, 0)) := by
  rw [setCell_eq_setRow w b k _ ty (0, 0) _ h, setRow_heap w b _ _ ty _ h, ← frow_set]
  simp
theorem frow_congr {f f' : Nat → Value} {K : Nat} (h : ∀ i, i < K → f i = f' i) : frow f K = frow f' K := List.map_congr_left fun i hi => h i (List.mem_range.1 hi)
theorem upd_map {α β : Type} (f : α → β) (d : Nat → α) (k : Nat) (y : α) : upd (fun i => f (d i)) k (f y) = fun i => f (upd d k y i) := by
  funext i; unfold upd; split <;> rfl
abbrev dv (d : Nat → Nat) : Nat → Value := fun i => .int .i64 (d i)
abbrev gv (g : Nat → Bool) : Nat → Value := fun i => .bool (g i)
/-- what stands in LockAlone -/
structure St (w0 w : World) (Q n N : Nat) (v : Value) (W : List (Value × List Int)) (bD bG : Nat) (d : Nat → Nat) (g : Nat → Bool) : Prop where
  own : Own w0 w Q n ⟨N, W.length, entF W.length (SW W) d g⟩ (· = bD)
  wt : Wt w0 w v W
  dn : w.heap[bD]? = some (.cells (frow (dv d) W.length).toArray 3 (0, 0))
  gn : w.heap[bG]? = some (.cells (frow (gv g) W.length).toArray 4 (0, 0))
  lo : ∀ x ∈ W, ∀ b, blk x.1 = some b → b < bD
  dl : w0.heap.size ≤ bD
  gl : w0.heap.size ≤ bG
section
variable {w0 w w' : World} {Q n N : Nat} {p : Option Addr} {c : Nat} {W : List (Value × List Int)} {bD bG : Nat} {d : Nat → Nat} {g : Nat → Bool}
theorem St.later {v : Value} (h : St w0 w Q n N v W bD bG d g) (hb : Below w.heap.size w w') : St w0 w' Q n N v W bD bG d g :=
  ⟨h.own.later hb, h.wt.later hb, (hb.block _ (Array.getElem?_eq_some_iff.1 h.dn).1).trans h.dn, (hb.block _ (Array.getElem?_eq_some_iff.1 h.gn).1).trans h.gn, h.lo, h.dl, h.gl⟩
theorem Wt.rd (h : Wt w0 w (.slice p W.length c) W) : ∀ i, i < W.length → ∃ b o p' c', p = some ⟨b, o, none⟩ ∧ w.cell? ⟨b, o + i, none⟩ = some (.slice p' (SW W i).length c') ∧ B.IIn w p' (SW W i).length (SW W i) ∧ (SW W i).length ≤ c' ∧ (p' = none → c' = 0) := fun i hi => by
  have hm : W[i] ∈ W := List.getElem_mem hi
  obtain ⟨p', c', e, hI, h1, h2⟩ := (h.frm _ hm).1.read
  have eS : (W[i]).2 = SW W i := by rw [SW_in hi]
  rw [eS] at e hI h1
  rcases h.own.2 with ⟨hv, _⟩ | ⟨g', cap, cur, hv, _⟩
  · simp only [Value.slice.injEq] at hv; omega
  · simp only [Value.slice.injEq] at hv
    have hc := h.own.cells (g := g') (by rw [hv.1, hv.2.2]; rfl) i (W[i]).1 (by simp [hi])
    refine ⟨g', 0, p', c', hv.1, ?_, hI, h1, h2⟩
    rw [e] at hc
    simpa [Go.WideShapes.add_plain] using hc
theorem St.fr (h : St w0 w Q n N (.slice p W.length c) W bD bG d g) : Fr w W.length (SW W) d g p (some ⟨bD, 0, none⟩) (some ⟨bG, 0, none⟩) :=
  ⟨h.wt.rd, fun i hi => ⟨bD, 0, rfl, by rw [Nat.zero_add]; exact frow_cell h.dn hi⟩, fun i hi => ⟨bG, 0, rfl, by rw [Nat.zero_add]; exact frow_cell h.gn hi⟩⟩
theorem St.mono {v : Value} {n' : Nat} (h : St w0 w Q n N v W bD bG d g) (hn : n ≤ n') : St w0 w Q n' N v W bD bG d g := ⟨h.own.mono hn, h.wt, h.dn, h.gn, h.lo, h.dl, h.gl⟩
theorem bool_ne : ¬ kinds 4 := by intro h; rcases h with e | e | e | e | e <;> cases e
theorem St.cells {v : Value} (h : St w0 w Q n N v W bD bG d g) (hk : Ks w w') {k : Nat} (hkl : k < W.length) : w'.cell? ⟨bG, k, none⟩ = some (.bool (g k)) ∧ w'.cell? ⟨bD, k, none⟩ = some (.int .i64 (d k)) ∧ (∀ w2, Below w'.heap.size w' w2 → w2.frozen? ⟨bG, k, none⟩ = false) ∧ ∀ w2, Below w'.heap.size w' w2 → w2.frozen? ⟨bD, k, none⟩ = false := by
  have gn' : w'.heap[bG]? = some (.cells (frow (gv g) W.length).toArray 4 (0, 0)) := (hk.block _ (Array.getElem?_eq_some_iff.1 h.gn).1 (by rw [kd_cells h.gn]; exact bool_ne)).trans h.gn
  have dn' : w'.heap[bD]? = some (.cells (frow (dv d) W.length).toArray 3 (0, 0)) := (hk.block _ (Array.getElem?_eq_some_iff.1 h.dn).1 (by rw [kd_cells h.dn]; exact no3)).trans h.dn
  refine ⟨frow_cell gn' hkl, frow_cell dn' hkl, fun w2 hb => ?_, fun w2 hb => ?_⟩
  · have := (hb.block _ (Array.getElem?_eq_some_iff.1 gn').1).trans gn'
    simp [World.frozen?, this]
  · have := (hb.block _ (Array.getElem?_eq_some_iff.1 dn').1).trans dn'
    simp [World.frozen?, this]
/-- one is gone -/
theorem St.gone {v : Value} (h : St w0 w Q n N v W bD bG d g) {k : Nat} {a' : Lk} (hk : Ks w w') (ho : Own w0 w' Q n a' (· = bD)) (ha : a' = ⟨N, W.length, entF W.length (SW W) d (upd g k true)⟩) : St w0 (w'.setCell ⟨bG, k, none⟩ (.bool true)) Q n N v W bD bG d (upd g k true) := by
  subst ha
  have dlt := (Array.getElem?_eq_some_iff.1 h.dn).1
  have glt := (Array.getElem?_eq_some_iff.1 h.gn).1
  have gn' : w'.heap[bG]? = some (.cells (frow (gv g) W.length).toArray 4 (0, 0)) := (hk.block _ glt (by rw [kd_cells h.gn]; exact bool_ne)).trans h.gn
  have dn' : w'.heap[bD]? = some (.cells (frow (dv d) W.length).toArray 3 (0, 0)) := (hk.block _ dlt (by rw [kd_cells h.dn]; exact no3)).trans h.dn
  have kG : kd w' bG = 4 := kd_cells gn'
  have wt' := h.wt.ks hk
  have hK := Kept.setCell (w := w') bG k (.bool true)
  refine ⟨ho.beside hK (fun b _ e => by subst e; exact ⟨h.gl, by rw [kG]; exact bool_ne, fun h3 => by rw [kG] at h3; cases h3⟩), ⟨Own.kept' wt'.own (fun b _ hl hg => hK.block b hl (ne_kd hg kG (by decide))), fun x hx => ⟨(wt'.frm x hx).1.far hK (fun b _ h3 => ne_kd h3 kG (by decide)), (wt'.frm x hx).2⟩⟩, ?_, ?_, h.lo, h.dl, h.gl⟩
  · exact (hK.block _ (Array.getElem?_eq_some_iff.1 dn').1 (ne_kd (kd_cells dn') kG (by decide))).trans dn'
  · rw [frow_put gn' k (.bool true), upd_map Value.bool g k true]
/-- one has taken -/
theorem St.did {v : Value} (h : St w0 w Q n N v W bD bG d g) {k n' : Nat} {a' : Lk} (hk : Ks w w') (ho : Own w0 w' Q n' a' (· = bD)) (ha : a' = ⟨N, W.length, entF W.length (SW W) (upd d k (d k + 1)) g⟩) : St w0 (w'.setCell ⟨bD, k, none⟩ (.int .i64 ((d k : Int) + 1))) Q n' N v W bD bG (upd d k (d k + 1)) g := by
  subst ha
  have dlt := (Array.getElem?_eq_some_iff.1 h.dn).1
  have glt := (Array.getElem?_eq_some_iff.1 h.gn).1
  have gn' : w'.heap[bG]? = some (.cells (frow (gv g) W.length).toArray 4 (0, 0)) := (hk.block _ glt (by rw [kd_cells h.gn]; exact bool_ne)).trans h.gn
  have dn' : w'.heap[bD]? = some (.cells (frow (dv d) W.length).toArray 3 (0, 0)) := (hk.block _ dlt (by rw [kd_cells h.dn]; exact no3)).trans h.dn
  have kD : kd w' bD = 3 := kd_cells dn'
  have wt' := h.wt.ks hk
  have hK := Kept.setCell (w := w') bD k (.int .i64 ((d k : Int) + 1))
  refine ⟨ho.beside hK (fun b _ e => by subst e; exact ⟨h.dl, by rw [kD]; exact no3, fun _ => rfl⟩), ⟨Own.kept' wt'.own (fun b _ hl hg => hK.block b hl (ne_kd hg kD (by decide))), fun x hx => ⟨(wt'.frm x hx).1.far hK (fun b hb _ e => by have := h.lo x hx b hb; omega), (wt'.frm x hx).2⟩⟩, ?_, ?_, h.lo, h.dl, h.gl⟩
  · rw [frow_put dn' k (.int .i64 ((d k : Int) + 1)), show (Value.int .i64 ((d k : Int) + 1)) = (fun m : Nat => Value.int .i64 (m : Int)) (d k + 1) by simp, upd_map (fun m : Nat => Value.int .i64 (m : Int)) d k (d k + 1)]
  · exact (hK.block _ (Array.getElem?_eq_some_iff.1 gn').1 (ne_kd (kd_cells gn') kD (by decide))).trans gn'
theorem St.same {v : Value} (h : St w0 w Q n N v W bD bG d g) {n' : Nat} {a' : Lk} (hk : Ks w w') (ho : Own w0 w' Q n' a' (· = bD)) (ha : a' = ⟨N, W.length, entF W.length (SW W) d g⟩) : St w0 w' Q n' N v W bD bG d g := by
  subst ha
  exact ⟨ho, h.wt.ks hk, (hk.block _ (Array.getElem?_eq_some_iff.1 h.dn).1 (by rw [kd_cells h.dn]; exact no3)).trans h.dn, (hk.block _ (Array.getElem?_eq_some_iff.1 h.gn).1 (by rw [kd_cells h.gn]; exact bool_ne)).trans h.gn, h.lo, h.dl, h.gl⟩
end
end Go.Proofs.Ytkffmglcllhbmaa
