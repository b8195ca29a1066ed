/-
  Layer 9: a step's cells; what holds between two steps.
-/
import Derived.Test.YtmcpjokbkkfgfaaGreatDoorT28
namespace Go.Proofs.YtmcpjokbkkfgfaaGreatDoor
open Go.RowKit


theorem own_lt {w : World} {base e size : Nat} {v : Value} {n : Nat} {xs : List Value} (h : w.ownsRow base e size v n xs) {k : Nat} (hk : v.ownBlock = some k) : k < w.heap.size := (h.lt k hk).2
theorem Tab.below {w w' : World} {B : Nat} (h : Tab w) (h1 : 1 < B) (hb : Below B w w') : Tab w' :=
  ⟨fun i hi => (cell_same (hb.block 1 h1)).trans (h.half i hi), fun i hi => ⟨(cell_same (hb.block 0 (by omega))).trans (h.flds i hi).1, (cell_same (hb.block 0 (by omega))).trans (h.flds i hi).2⟩⟩
/-- a step's cells -/
def ocells (kd wh b : Int) (v : List Int) (pos : Int) (keep data : Value) : List Value := .int .i64 kd :: .int .i64 wh :: .int .i64 b :: (U8 v ++ [.int .u64 pos, keep, data])
theorem ocells_len (kd wh b : Int) {v : List Int} (hv : v.length = 32) (pos : Int) (keep data : Value) : (ocells kd wh b v pos keep data).length = 38 := by simp [ocells, hv]
theorem ocells_at (kd wh b : Int) {v : List Int} (hv : v.length = 32) (pos : Int) (keep data : Value) (j : Nat) : (ocells kd wh b v pos keep data)[35 + j]? = [.int .u64 pos, keep, data][j]? := by
  unfold ocells
  rw [show 35 + j = 32 + j + 1 + 1 + 1 by omega, List.getElem?_cons_succ, List.getElem?_cons_succ, List.getElem?_cons_succ, List.getElem?_append_right (by simp [hv])]
  simp [hv]
abbrev OAt (w : World) (g : Nat) (kd wh b : Int) (v : List Int) (pos : Int) (keep data : Value) : Prop := LAt 53 w g (ocells kd wh b v pos keep data)
section
variable {w : World} {g : Nat} {kd wh b ps : Int} {v : List Int} {kp dt : Value}
theorem OAt.kind (h : OAt w g kd wh b v ps kp dt) : w.cell? ⟨g, 0, none⟩ = some (.int .i64 kd) := LAt.cell h 0
theorem OAt.which (h : OAt w g kd wh b v ps kp dt) : w.cell? ⟨g, 1, none⟩ = some (.int .i64 wh) := LAt.cell h 1
theorem OAt.block (h : OAt w g kd wh b v ps kp dt) : w.cell? ⟨g, 2, none⟩ = some (.int .i64 b) := LAt.cell h 2
theorem OAt.pos (h : OAt w g kd wh b v ps kp dt) (hv : v.length = 32) : w.cell? ⟨g, 35, none⟩ = some (.int .u64 ps) := (LAt.cell h 35).trans (ocells_at kd wh b hv ps kp dt 0)
theorem OAt.keep (h : OAt w g kd wh b v ps kp dt) (hv : v.length = 32) : w.cell? ⟨g, 36, none⟩ = some kp := (LAt.cell h 36).trans (ocells_at kd wh b hv ps kp dt 1)
theorem OAt.data (h : OAt w g kd wh b v ps kp dt) (hv : v.length = 32) : w.cell? ⟨g, 37, none⟩ = some dt := (LAt.cell h 37).trans (ocells_at kd wh b hv ps kp dt 2)
theorem OAt.val (h : OAt w g kd wh b v ps kp dt) : w.rangeAt g 3 (U8 v) := fun j u hu => by
  have hj : j < (U8 v).length := (List.getElem?_eq_some_iff.1 hu).1
  rw [LAt.cell h (3 + j), ← hu]
  unfold ocells
  rw [show 3 + j = j + 1 + 1 + 1 by omega, List.getElem?_cons_succ, List.getElem?_cons_succ, List.getElem?_cons_succ, List.getElem?_append_left hj]
theorem sizeOp : (Tryz.prog.info? 53).map (·.size) = some 38 := by kernel_rfl
theorem sizeVal : (Tryz.prog.info? 49).map (·.size) = some 32 := by kernel_rfl
theorem OAt.loadV (h : OAt w g kd wh b v ps kp dt) (hv : v.length = 32) : (Instr.loadAt 49 (.pointer (some ⟨g, 3, none⟩))).run Tryz.prog w = .ok (.agg (U8 v).toArray) w :=
  run_loadAt_mid w g 3 49 (U8 v) _ h.val Tryz.underlying49 rfl (by rw [sizeVal, U8_length, hv])
theorem OAt.loadO (h : OAt w g kd wh b v ps kp dt) (hv : v.length = 32) : (Instr.loadAt 53 (.pointer (some ⟨g, 0, none⟩))).run Tryz.prog w = .ok (.agg (ocells kd wh b v ps kp dt).toArray) w :=
  run_loadAt_mid w g 0 53 _ _ (LAt.range h) Tryz.underlying53 rfl (by rw [sizeOp, ocells_len _ _ _ hv])
end
/-- which log -/
def sl2 (x : Int) : Nat := ((x.tmod 2 + 2) % 2).toNat
theorem sl2_lt (x : Int) : sl2 x < 2 := by unfold sl2; omega
theorem sl2_is (x : Int) : (x.tmod 2 + 2) % 2 = ((sl2 x : Nat) : Int) := by unfold sl2; omega
theorem tmod2 (x : Int) : -2 < x.tmod 2 ∧ x.tmod 2 < 2 := by
  rcases Int.le_total 0 x with h | h
  · rw [Int.tmod_eq_emod_of_nonneg h]; omega
  · rw [show x = -(-x) by omega, Int.neg_tmod, Int.tmod_eq_emod_of_nonneg (show 0 ≤ -x by omega)]; omega
section
variable {w w' : World} {R : Nat → Nat} {B P M : Nat} {L x K y : Nat → Nat} {e f : Nat → Sd} {bo : Nat → Int}
theorem Wd.beyond (h : Wd w R B P M L x K y e f bo) {k : Nat} (hk : R k ≠ 0) : B ≤ k := Nat.le_of_not_lt (fun c => hk (h.lo k c))
theorem Wd.kb (h : Wd w R B P M L x K y e f bo) (hB : B ≤ w.heap.size) {X : Nat} (hX : X ≠ 0) (hk : Kept (fun k => R k = X) w w') : Below B w w' := hk.below hB (fun k hk' => h.beyond (by rw [hk']; exact hX))
end
/-- between two steps: both sides say the same, and the tables stand -/
structure Sq (w : World) (B P M k : Nat) : Prop where
  st : St w B P M k
  tab : Tab w
  b1 : 1 < B
theorem St.later {w w' : World} {B P M k : Nat} (h : St w B P M k) (hb : Below w.heap.size w w') : St w' B P M k := by
  obtain ⟨R, L, x, K, y, e, bo, h1, h2, h3⟩ := h
  exact ⟨R, L, x, K, y, e, bo, h1.later hb, h2, Nat.le_trans h3 hb.size⟩
theorem Sq.later {w w' : World} {B P M k : Nat} (h : Sq w B P M k) (hb : Below w.heap.size w w') : Sq w' B P M k := ⟨h.st.later hb, h.tab.later hb, h.b1⟩
theorem Sq.more {w : World} {B P M k k' : Nat} (h : Sq w B P M k) (hk : k ≤ k') : Sq w B P M k' := by
  obtain ⟨⟨R, L, x, K, y, e, bo, h1, h2, h3⟩, ht, hb⟩ := h
  exact ⟨⟨R, L, x, K, y, e, bo, h1, fun i hi => Nat.le_trans (h2 i hi) hk, h3⟩, ht, hb⟩
theorem Sq.B {w : World} {B P M k : Nat} (h : Sq w B P M k) : B ≤ w.heap.size := by
  obtain ⟨⟨R, L, x, K, y, e, bo, h1, h2, h3⟩, ht, hb⟩ := h; exact h3
/-- both logs i were turned, one behind the other, to the same -/
theorem Wd.step {w w1 w2 : World} {R : Nat → Nat} {B P M : Nat} {L x K y : Nat → Nat} {e : Nat → Sd} {bo : Nat → Int} (h : Wd w R B P M L x K y e e bo) {k i : Nat} (hi : i < M) (hl : ∀ i, i < M → (e i).ws.length ≤ k) (hB : B ≤ w.heap.size) (ht : Tab w) (h1 : 1 < B) {E : Sd} {b : Int}
    (k1 : Kept (fun k => R k = 1 + i) w w1) (d1 : LS w1 (More (fun k => R k = 1 + i) w) (L i) (x i) E)
    (k2 : Kept (fun k => up R w.heap.size w1.heap.size (1 + i) k = 3 + i) w1 w2) (d2 : RS w2 (More (fun k => up R w.heap.size w1.heap.size (1 + i) k = 3 + i) w1) (K i) (y i) E b) (hE : E.ws.length ≤ k + 1) : Sq w2 B P M (k + 1) ∧ Below B w w2 := by
  have g1 := h.setL hi k1 d1 hB
  have hB1 := Nat.le_trans hB k1.size
  have g2 := g1.setR hi k2 d2 hB1
  have b1 := h.kb hB (by omega) k1
  have b2 := g1.kb hB1 (by omega) k2
  refine ⟨⟨⟨_, L, x, K, y, at2 e i E, _, g2, fun j hj => ?_, Nat.le_trans hB1 k2.size⟩, (ht.below h1 b1).below h1 b2, h1⟩, b1.trans b2⟩
  by_cases c : j = i
  · subst c; rw [at2_same]; exact hE
  · rw [at2_other _ _ _ _ c]; have := hl j hj; omega
end Go.Proofs.YtmcpjokbkkfgfaaGreatDoor
