/-
  Layer 13: Enter, Copy.
-/
import Derived.Test.YtkgjmejpbklabaaGreatAh
namespace Go.Proofs.YtkgjmejpbklabaaGreat.M
open Go.RowKit
section
variable {w w' : World} {F : Ft} {n : Nat} {a : Ad}
/-- Enter -/
theorem enter_at (h : PL w F n a) (hn : n < 10000) (hN : a.next ≤ 1000) :
    Calls Tryz.prog 32 #[qp F.Q] w fun e w' => ∃ q d v1' v2', e = .returned (.tuple #[.int .u64 a.entT, .slice q a.entF.length d, .int .i64 a.entE]) ∧ w'.ownsRow w.heap.size 3 1 (.slice q a.entF.length d) a.entF.length (B.I64 a.entF) ∧ PL w' { F with v1 := v1', v2 := v2' } (n + 1) a.entS ∧ blk v1' = blk F.v1 ∧ (blk v2' = blk F.v2 ∨ ∃ g, blk v2' = some g ∧ w.heap.size ≤ g) ∧ Kept F.has w w' := by
  cases hW : a.W with
  | nil =>
    have e1 : a.entE = 110 := by simp [Ad.entE, hW]
    have e2 : a.entT = 0 ∧ a.entF = [] ∧ a.entS = a := by simp [Ad.entT, Ad.entF, Ad.entS, e1]
    rw [e1, e2.1, e2.2.1, e2.2.2]
    refine (enter_no h hN (by simp [Ad.isW, hW])).mono ?_
    rintro e w' ⟨rfl, hb⟩
    exact ⟨none, 0, F.v1, F.v2, rfl, World.ownsRow_nil _ _ _ _, (h.later hb).mono (Nat.le_succ n), rfl, .inl rfl, Kept.of_below _ hb⟩
  | cons x r =>
    cases hf : a.fits with
    | false =>
      have e1 : a.entE = 120 := by simp [Ad.entE, hW, hf]
      have e2 : a.entT = 0 ∧ a.entF = [] ∧ a.entS = a := by simp [Ad.entT, Ad.entF, Ad.entS, e1]
      rw [e1, e2.1, e2.2.1, e2.2.2]
      refine (enter_room h hn hN hW hf).mono ?_
      rintro e w' ⟨rfl, hp, hk⟩
      exact ⟨none, 0, F.v1, F.v2, rfl, World.ownsRow_nil _ _ _ _, hp, rfl, .inl rfl, hk⟩
    | true =>
      have e1 : a.entE = 0 := by simp [Ad.entE, hW, hf]
      have e2 : a.entT = x.1 ∧ a.entF = x.2 ∧ a.entS = { a with W := r, I := a.I ++ [(x.1, x.2, (x.2.length : Int) + 1)], got := x.1 } := by simp [Ad.entT, Ad.entF, Ad.entS, e1, Ad.fT, Ad.fF, hW]
      have hok := h.ok.ent
      rw [e2.2.2] at hok
      rw [e1, e2.1, e2.2.1, e2.2.2]
      exact enter_ok h hn hN hW hf hok
abbrev tcells (a : Ad) (p1 p2 m b : Value) : Array Value := #[.int .i64 a.bl, .int .i64 a.lc, .int .i64 a.mr, .int .i64 a.hi, .int .i64 a.cl, .int .u64 a.next, p1, p2, m, b]
/-- a twin while it is made: what is known at a world -/
structure Tw (w V : World) (Q : Nat) (a : Ad) (p1 p2 m b : Value) : Prop where
  st : V.heap[Q]? = some (.cells (tcells a p1 p2 m b) 62 (0, 0))
  below : Below w.heap.size w V
section
variable {V V' : World} {Q : Nat} {p1 p2 m b : Value}
theorem Tw.c (h : Tw w V Q a p1 p2 m b) (o : Nat) : V.cell? ⟨Q, o, none⟩ = (tcells a p1 p2 m b)[o]? := cell_of_row _ Q o _ 62 (0, 0) h.st
theorem Tw.free (h : Tw w V Q a p1 p2 m b) (o : Nat) : V.frozen? ⟨Q, o, none⟩ = false := by simp [World.frozen?, h.st]
theorem Tw.later (h : Tw w V Q a p1 p2 m b) (hb : Below V.heap.size V V') : Tw w V' Q a p1 p2 m b := ⟨(hb.block Q (Array.getElem?_eq_some_iff.1 h.st).1).trans h.st, h.below.trans (hb.mono h.below.size)⟩
theorem Tw.set6 (h : Tw w V Q a p1 p2 m b) (hQ : w.heap.size ≤ Q) (v : Value) : Tw w (V.setCell ⟨Q, 6, none⟩ v) Q a v p2 m b := ⟨by rw [L.st_set 6 _ h.st]; rfl, h.below.setCell (p := ⟨Q, 6, none⟩) (by simpa using hQ) v⟩
theorem Tw.set7 (h : Tw w V Q a p1 p2 m b) (hQ : w.heap.size ≤ Q) (v : Value) : Tw w (V.setCell ⟨Q, 7, none⟩ v) Q a p1 v m b := ⟨by rw [L.st_set 7 _ h.st]; rfl, h.below.setCell (p := ⟨Q, 7, none⟩) (by simpa using hQ) v⟩
theorem Tw.set8 (h : Tw w V Q a p1 p2 m b) (hQ : w.heap.size ≤ Q) (v : Value) : Tw w (V.setCell ⟨Q, 8, none⟩ v) Q a p1 p2 v b := ⟨by rw [L.st_set 8 _ h.st]; rfl, h.below.setCell (p := ⟨Q, 8, none⟩) (by simpa using hQ) v⟩
theorem Tw.set9 (h : Tw w V Q a p1 p2 m b) (hQ : w.heap.size ≤ Q) (v : Value) : Tw w (V.setCell ⟨Q, 9, none⟩ v) Q a p1 p2 m v := ⟨by rw [L.st_set 9 _ h.st]; rfl, h.below.setCell (p := ⟨Q, 9, none⟩) (by simpa using hQ) v⟩
end
end
end Go.Proofs.YtkgjmejpbklabaaGreat.M
