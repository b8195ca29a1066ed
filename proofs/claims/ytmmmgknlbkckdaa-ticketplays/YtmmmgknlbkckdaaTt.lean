/-
  Layer 11: what is kept, as it is read, made and stored.
-/
import Derived.Test.YtmmmgknlbkckdaaTs
import Derived.Laws.Tables
import Derived.Deep.MidRow
namespace Go.Proofs.Ytmmmgknlbkckdaa
open Go.RowKit


theorem at_ops {P : Program} {ops : Array Oper} {rest : List Oper} {o : Oper} {a : Act} {w : World} {Q : Exit → Act → World → Prop} (h : wpList P ops Q (o :: rest) a w) : wpList P ops Q (o :: rest) a w := h
section
variable {P : Program} {ops : Array Oper} {rest : List Oper} {o : Oper} {a : Act} {w w' : World} {Q : Exit → Act → World → Prop}
/-- an operation by what it runs to, guarded or not -/
theorem wpList_val (hgd : Region.wanted o (yielded ops a.tmps) = true) {v : Value} (hrun : (execOp a.eval o).run P w = .ok (.value v) w') (h : wpList P ops Q rest (a.put o.dst v) w') : wpList P ops Q (o :: rest) a w :=
  wpList_step fun K hK => by
    rw [if_pos hgd]
    unfold Oper.wp
    rw [hrun]
    exact hK _ _ h
theorem wpList_skp (hgd : Region.wanted o (yielded ops a.tmps) = true) (hrun : (execOp a.eval o).run P w = .ok .skip w') (h : wpList P ops Q rest (a.put o.dst undef) w') : wpList P ops Q (o :: rest) a w :=
  wpList_step fun K hK => by
    rw [if_pos hgd]
    unfold Oper.wp
    rw [hrun]
    exact hK _ _ h
theorem wpList_load_is (hgd : Region.wanted o (yielded ops a.tmps) = true) (ty : TypeId) {x : Operand} (ho : o.op = .load ty x) {p v : Value} (hx : a.eval x = p) (hrun : (Instr.loadAt ty p).run P w = .ok v w)
    (h : wpList P ops Q rest (a.put o.dst v) w) : wpList P ops Q (o :: rest) a w :=
  wpList_val hgd (by unfold execOp; simp only [ho, hx, Sem.run_bind, hrun, Result.andThen_ok, Sem.run_pure]) h



theorem wpList_alloc_is (hgd : Region.wanted o (yielded ops a.tmps) = true) (ty : TypeId) (ho : o.op = .alloc ty) {v : Value} (hrun : (Instr.alloc ty true (.tuple #[])).run P w = .ok v w')
    (h : wpList P ops Q rest (a.put o.dst v) w') : wpList P ops Q (o :: rest) a w :=
  wpList_val hgd (by unfold execOp; simp only [ho, Sem.run_bind, hrun, Result.andThen_ok, Sem.run_pure]) h
theorem wpList_store_is (hgd : Region.wanted o (yielded ops a.tmps) = true) (ty : TypeId) {x y : Operand} (ho : o.op = .store ty x y) {p v : Value} (hx : a.eval x = p) (hy : a.eval y = v) (hrun : (Instr.storeAt ty p v).run P w = .ok () w')
    (h : wpList P ops Q rest (a.put o.dst undef) w') : wpList P ops Q (o :: rest) a w :=
  wpList_skp hgd (by unfold execOp; simp only [ho, hx, hy, Sem.run_bind, hrun, Result.andThen_ok, Sem.run_pure]) h
end
section
variable {F : Fence} {n : Nat} {P : Program} {ops : Array Oper} {rest : List Oper} {o : Oper} {a : Act} {w w' : World} {Q : Exit → Act → World → Prop}
theorem in_ops (h : wpListIn F n P ops Q (o :: rest) a w) : wpListIn F n P ops Q (o :: rest) a w := h
theorem in_val (hgd : Region.wanted o (yielded ops a.tmps) = true) (hab : o.about P w a.eval = none) (hop : ∀ c, o.op ≠ .defer c) {v : Value} (hrun : (execOp a.eval o).run P w = .ok (.value v) w') (h : wpListIn F n P ops Q rest (a.put o.dst v) w') : wpListIn F n P ops Q (o :: rest) a w :=
  wpListIn_step fun K hK => by
    rw [if_pos hgd]
    unfold Oper.wpIn
    refine ⟨fun f hf => (by rw [hab] at hf; cases hf), ?_⟩
    rw [Oper.semAt_plain F _ _ hop, hrun]
    exact hK _ _ h
theorem in_skp (hgd : Region.wanted o (yielded ops a.tmps) = true) (hab : o.about P w a.eval = none) (hop : ∀ c, o.op ≠ .defer c) (hrun : (execOp a.eval o).run P w = .ok .skip w') (h : wpListIn F n P ops Q rest (a.put o.dst undef) w') : wpListIn F n P ops Q (o :: rest) a w :=
  wpListIn_step fun K hK => by
    rw [if_pos hgd]
    unfold Oper.wpIn
    refine ⟨fun f hf => (by rw [hab] at hf; cases hf), ?_⟩
    rw [Oper.semAt_plain F _ _ hop, hrun]
    exact hK _ _ h
theorem in_load (hgd : Region.wanted o (yielded ops a.tmps) = true) (ty : TypeId) {x : Operand} (ho : o.op = .load ty x) {p v : Value} (hx : a.eval x = p) (hrun : (Instr.loadAt ty p).run P w = .ok v w) (h : wpListIn F n P ops Q rest (a.put o.dst v) w) : wpListIn F n P ops Q (o :: rest) a w :=
  in_val hgd (by simp [Oper.about, ho]) (by rw [ho]; intro c e; cases e) (by unfold execOp; simp only [ho, hx, Sem.run_bind, hrun, Result.andThen_ok, Sem.run_pure]) h
theorem in_alloc (hgd : Region.wanted o (yielded ops a.tmps) = true) (ty : TypeId) (ho : o.op = .alloc ty) {v : Value} (hrun : (Instr.alloc ty true (.tuple #[])).run P w = .ok v w') (h : wpListIn F n P ops Q rest (a.put o.dst v) w') : wpListIn F n P ops Q (o :: rest) a w :=
  in_val hgd (by simp [Oper.about, ho]) (by rw [ho]; intro c e; cases e) (by unfold execOp; simp only [ho, Sem.run_bind, hrun, Result.andThen_ok, Sem.run_pure]) h
theorem in_store (hgd : Region.wanted o (yielded ops a.tmps) = true) (ty : TypeId) {x y : Operand} (ho : o.op = .store ty x y) {p v : Value} (hx : a.eval x = p) (hy : a.eval y = v) (hrun : (Instr.storeAt ty p v).run P w = .ok () w') (h : wpListIn F n P ops Q rest (a.put o.dst undef) w') : wpListIn F n P ops Q (o :: rest) a w :=
  in_skp hgd (by simp [Oper.about, ho]) (by rw [ho]; intro c e; cases e) (by unfold execOp; simp only [ho, hx, hy, Sem.run_bind, hrun, Result.andThen_ok, Sem.run_pure]) h
end
theorem world_ext : ∀ (u v : World), u.heap = v.heap → u.tape = v.tape → u.drawn = v.drawn → u.os = v.os → u.output = v.output → u = v
  | ⟨_, _, _, _, _⟩, ⟨_, _, _, _, _⟩, h1, h2, h3, h4, h5 => by
    simp only at h1 h2 h3 h4 h5
    subst h1 h2 h3 h4 h5
    rfl
theorem setRow_alloc (w : World) (a b : Array Value) (t : TypeId) : (w.alloc (.cells a t)).setRow w.heap.size b = w.alloc (.cells b t) := by
  refine world_ext _ _ ?_ rfl rfl rfl rfl
  apply Array.ext_getElem?
  intro k
  by_cases c : k = w.heap.size
  · subst c
    rw [setRow_heap _ _ a b t (0, 0) (heap_alloc_new w _), heap_alloc_new]
  · rw [setRow_other _ _ _ _ c]
    show (w.heap.push _)[k]? = (w.heap.push _)[k]?
    rw [Array.getElem?_push, Array.getElem?_push, if_neg c, if_neg c]

theorem size55 : (Try.prog.info? 55).map (·.size) = some 2 := by kernel_rfl
theorem load55 {w : World} {g o : Nat} {a b : Value} (ha : w.cell? ⟨g, o, none⟩ = some a) (hb : w.cell? ⟨g, o + 1, none⟩ = some b) : (Instr.loadAt 55 (.pointer (some ⟨g, o, none⟩))).run Try.prog w = .ok (.agg #[a, b]) w := by
  refine run_loadAt_mid w g o 55 [a, b] _ (fun j v hv => ?_) Try.underlying55 rfl size55
  match j, hv with
  | 0, hv => cases hv; exact ha
  | 1, hv => cases hv; exact hb
theorem zero55 (w : World) : (zeroValue 55).run Try.prog w = .ok (.agg #[.int .i64 0, .nilFunc]) w := by
  obtain ⟨i0, hi, hz0, _⟩ := info_parts info55
  simp [zeroValue, typeInfo, hi, hz0]
theorem alloc55 (w : World) : (Instr.alloc 55 true (.tuple #[])).run Try.prog w = .ok (.pointer (some ⟨w.heap.size, 0, none⟩)) (w.alloc (.cells #[.int .i64 0, .nilFunc] 55)) := by
  simp only [Instr.alloc, Sem.run_bind, zero55, Result.andThen_ok]
  simp [newVar, newRow, Value.cells]
theorem store55 (w : World) (x B : Nat) : (Instr.storeAt 55 (.pointer (some ⟨w.heap.size, 0, none⟩)) (.agg #[.int .i64 x, seqV B])).run Try.prog (w.alloc (.cells #[.int .i64 0, .nilFunc] 55)) = .ok () (w.alloc (.cells #[.int .i64 x, seqV B] 55)) := by
  simp only [Instr.storeAt, Instr.sureAddr, Sem.run_bind, Sem.run_pure, Result.andThen_ok]
  rw [run_storeVar_row _ w.heap.size 55 55 #[.int .i64 0, .nilFunc] #[.int .i64 x, seqV B] (heap_alloc_new w _) size55 rfl (by simp [Value.oneCell']), setRow_alloc]
theorem two_at (w : World) (x B : Nat) : (w.alloc (.cells #[.int .i64 x, seqV B] 55)).cell? ⟨w.heap.size, 0, none⟩ = some (.int .i64 x) ∧ (w.alloc (.cells #[.int .i64 x, seqV B] 55)).cell? ⟨w.heap.size, 0 + 1, none⟩ = some (seqV B) := by
  refine ⟨?_, ?_⟩
  · rw [cell_of_row _ w.heap.size 0 _ 55 (0, 0) (heap_alloc_new w _)]; rfl
  · rw [cell_of_row _ w.heap.size (0 + 1) _ 55 (0, 0) (heap_alloc_new w _)]; rfl
/-- how what was kept lies, as it is read -/
structure KIn (w : World) (p : Option Addr) (ks : List (Nat × Nat)) : Prop where
  cells : ∀ r (h : r < ks.length), ∃ g, p = some ⟨g, 0, none⟩ ∧ w.cell? ⟨g, r * 2, none⟩ = some (.int .i64 (ks[r].1 : Nat)) ∧ w.cell? ⟨g, r * 2 + 1, none⟩ = some (seqV ks[r].2)
theorem KIn.later {w w' : World} {p : Option Addr} {ks : List (Nat × Nat)} (h : KIn w p ks) (hb : Below w.heap.size w w') : KIn w' p ks := ⟨fun r hr => by
  obtain ⟨g, e, h1, h2⟩ := h.cells r hr
  exact ⟨g, e, (hb.cell (p := ⟨g, r * 2, none⟩) (World.block_lt_of_cell? w _ h1)).trans h1, (hb.cell (p := ⟨g, r * 2 + 1, none⟩) (World.block_lt_of_cell? w _ h2)).trans h2⟩⟩
theorem KIn.of {w : World} {base : Nat} {kv : Value} {ks : List (Nat × Nat)} (h : w.ownsRow base 55 2 kv ks.length (kcells ks)) : ∃ p c, kv = .slice p ks.length c ∧ KIn w p ks := by
  rcases h.2 with ⟨e, hn⟩ | ⟨g, cap, cur, rfl, _⟩
  · refine ⟨none, 0, by rw [e, hn], ⟨fun r hr => by omega⟩⟩
  · refine ⟨_, _, rfl, ⟨fun r hr => ⟨g, rfl, ?_, ?_⟩⟩⟩
    · rw [h.cellAt (r * 2) (by omega)]; exact (kcells_at ks r hr).1
    · rw [h.cellAt (r * 2 + 1) (by omega)]; exact (kcells_at ks r hr).2
end Go.Proofs.Ytmmmgknlbkckdaa
