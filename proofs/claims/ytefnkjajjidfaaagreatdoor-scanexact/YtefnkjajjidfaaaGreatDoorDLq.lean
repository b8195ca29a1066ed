/-
  Layer 4: what the operations on a write and on a place do, said once: no cell by cell.
-/
import Derived.Test.YtefnkjajjidfaaaGreatDoorDLa
import Derived.Laws.Cover3
import Derived.Great.FillDense
import Derived.Great.BuildSlice
namespace Go.Proofs.YtefnkjajjidfaaaGreatDoor
open Go.RowKit
theorem part_fill4 (off : Nat) (vs : List Value) (cs : List Value) (h : off + vs.length ≤ cs.length) :
    vs.toArray.zipIdx.foldl (fun cs (x : Value × Nat) => cs.setIfInBounds (off + x.2) x.1) cs.toArray = (cs.take off ++ vs ++ cs.drop (off + vs.length)).toArray := by
  rw [← Array.foldl_toList, Array.toList_zipIdx]
  obtain ⟨h1, h2⟩ := Great.foldl_set off vs 0 cs.toArray
  apply Array.ext_getElem?
  intro k
  have e := h2 k
  simp only [Nat.add_zero, List.size_toArray] at e
  refine Eq.trans e ?_
  rw [List.getElem?_toArray, List.getElem?_toArray]
  by_cases c1 : k < off
  · rw [if_neg (by omega), List.append_assoc, List.getElem?_append_left (by simp; omega), List.getElem?_take, if_pos c1]
  · by_cases c2 : k < off + vs.length
    · rw [if_pos ⟨by omega, c2, by omega⟩, List.append_assoc, List.getElem?_append_right (by simp; omega), List.getElem?_append_left (by simp; omega)]
      congr 1; simp; omega
    · rw [if_neg (by omega), List.getElem?_append_right (by simp; omega), List.getElem?_drop]
      congr 1; simp; omega
theorem places80 : placesOf Tryz.prog 121 = some [(0, 1), (1, 64)] := by kernel_rfl
theorem places71 : placesOf Tryz.prog 118 = some [(0, 64), (64, 64)] := by kernel_rfl
theorem zero804 : (Tryz.prog.info? 121).bind (·.zero) = some (.agg (.int .i64 0 :: List.replicate 64 (Value.int .u8 0)).toArray) := by kernel_rfl
theorem zero71 : (Tryz.prog.info? 118).bind (·.zero) = some (.agg (List.replicate 128 (Value.int .u8 0)).toArray) := by kernel_rfl
theorem zero694 : (Tryz.prog.info? 116).bind (·.zero) = some (.agg (List.replicate 64 (Value.int .u8 0)).toArray) := by kernel_rfl
theorem fill_two4 (ps : List (Nat × Nat)) (cs : List Value) (o0 n0 o1 n1 : Nat) (hp : ps = [(o0, n0), (o1, n1)]) (v0 v1 : Value) (c0 c1 : List Value) (h0 : v0.cells = c0.toArray) (h1 : v1.cells = c1.toArray) (e0 : c0.length = n0) (e1 : c1.length = n1) (ho0 : o0 = 0) (ho1 : n0 = o1) (hl : cs.length = n0 + n1) :
    Instr.fill (ps.toArray[·]?) cs.toArray [(0, v0), (1, v1)] = some (c0 ++ c1).toArray := by
  subst hp ho0 ho1
  have a0 := part_fill4 0 c0 cs (by omega)
  have a1 := part_fill4 n0 c1 (cs.take 0 ++ c0 ++ cs.drop (0 + c0.length)) (by simp; omega)
  simp only [Instr.fill]
  rw [h0, h1]
  simp only [List.size_toArray, List.getElem?_toArray, List.getElem?_cons_zero, List.getElem?_cons_succ]
  rw [if_neg (by simp [e0]; omega)]
  have a0' : c0.toArray.zipIdx.foldl (fun cs x => match x with | (c, j) => cs.setIfInBounds (0 + j) c) cs.toArray = (cs.take 0 ++ c0 ++ cs.drop (0 + c0.length)).toArray := a0
  rw [a0']
  simp only [List.size_toArray]
  rw [if_neg (by simp [e0, e1]; omega)]
  have a1' : c1.toArray.zipIdx.foldl (fun cs x => match x with | (c, j) => cs.setIfInBounds (n0 + j) c) (cs.take 0 ++ c0 ++ cs.drop (0 + c0.length)).toArray = _ := a1
  rw [a1']
  congr 2
  apply List.ext_getElem?
  intro k
  simp only [List.take_zero, List.nil_append, Nat.zero_add]
  rw [List.take_append_of_le_length (by omega), List.take_of_length_le (by omega), List.drop_eq_nil_of_le (by simp; omega), List.append_nil]
theorem built80 (s : Int) (b : List Int) (hb : b.length = 64) : Tryz.prog.built 121 [(0, .int .i64 s), (1, .agg (U8 b).toArray)] = some (.int .i64 s :: U8 b).toArray := by
  rw [built_of 121 _ _ _ places80 zero804]
  exact fill_two4 _ _ 0 1 1 64 rfl _ _ [.int .i64 s] (U8 b) rfl rfl rfl (by rw [U8_length, hb]) rfl rfl (by simp)
theorem built71 (a b : List Int) (ha : a.length = 64) (hb : b.length = 64) : Tryz.prog.built 118 [(0, .agg (U8 a).toArray), (1, .agg (U8 b).toArray)] = some (U8 a ++ U8 b).toArray := by
  rw [built_of 118 _ _ _ places71 zero71]
  exact fill_two4 _ _ 0 64 64 64 rfl _ _ (U8 a) (U8 b) rfl rfl (by rw [U8_length, ha]) (by rw [U8_length, hb]) rfl rfl (by simp)
/-- 'pending{sector: s, data: b}' -/
theorem run_build80 (w : World) (s : Nat) (b : List Int) (hb : b.length = 64) : (Instr.build 121 #[(0, .int .i64 s), (1, .agg (U8 b).toArray)]).run Tryz.prog w = .ok (.agg (wcell ⟨s, b⟩).toArray) w :=
  run_build w 121 _ _ (built80 s b hb)
theorem run_build71 (w : World) (a b : List Int) (ha : a.length = 64) (hb : b.length = 64) : (Instr.build 118 #[(0, .agg (U8 a).toArray), (1, .agg (U8 b).toArray)]).run Tryz.prog w = .ok (.agg (U8 a ++ U8 b).toArray) w :=
  run_build w 118 _ _ (built71 a b ha hb)
/-- a new variable's cells: never looked into -/
def Z80 : Array Value := (.int .i64 0 :: List.replicate 64 (Value.int .u8 0)).toArray
def Z69 : Array Value := (List.replicate 64 (Value.int .u8 0)).toArray
theorem Z80_size : Z80.size = 65 := by simp [Z80]
theorem Z69_size : Z69.size = 64 := by simp [Z69]
theorem zv4 (t : TypeId) (z : Value) (hz : (Tryz.prog.info? t).bind (·.zero) = some z) (w : World) : (zeroValue t).run Tryz.prog w = .ok z w := by
  cases hi : Tryz.prog.info? t with
  | none => simp [hi] at hz
  | some it =>
    simp only [hi, Option.bind_some] at hz
    simp [zeroValue, typeInfo, hi, hz]
theorem run_alloc80 (w : World) : (Instr.alloc 121 true (.tuple #[])).run Tryz.prog w = .ok (.pointer (some ⟨w.heap.size, 0, none⟩)) (w.alloc (.cells Z80 121)) := by
  simp only [Instr.alloc, Sem.run_bind, zv4 121 _ zero804, Result.andThen_ok]
  simp [newVar, newRow, Value.cells, Z80]
theorem run_alloc69 (w : World) : (Instr.alloc 116 true (.tuple #[])).run Tryz.prog w = .ok (.pointer (some ⟨w.heap.size, 0, none⟩)) (w.alloc (.cells Z69 116)) := by
  simp only [Instr.alloc, Sem.run_bind, zv4 116 _ zero694, Result.andThen_ok]
  simp [newVar, newRow, Value.cells, Z69]
theorem world_ext4 : ∀ (u v : World), u.heap = v.heap → u.tape = v.tape → u.drawn = v.drawn → u.os = v.os → u.output = v.output → u = v
  | ⟨_, _, _, _, _⟩, ⟨_, _, _, _, _⟩, h1, h2, h3, h4, h5 => by
    simp only at h1 h2 h3 h4 h5
    subst h1 h2 h3 h4 h5
    rfl
theorem setRow_alloc4 (w : World) (a b : Array Value) (t : TypeId) : (w.alloc (.cells a t)).setRow w.heap.size b = w.alloc (.cells b t) := by
  refine world_ext4 _ _ ?_ rfl rfl rfl rfl
  apply Array.ext_getElem?
  intro k
  by_cases c : k = w.heap.size
  · subst c
    rw [setRow_heap _ _ a b t (0, 0) (heap_alloc_new w _), heap_alloc_new]
  · have e1 : ((w.alloc (.cells a t)).setRow w.heap.size b).heap[k]? = (w.alloc (.cells a t)).heap[k]? := by
      simp only [World.setRow, Array.getElem?_modify]
      rw [if_neg (fun h => c h.symm)]
    rw [e1]
    show (w.heap.push _)[k]? = (w.heap.push _)[k]?
    rw [Array.getElem?_push, Array.getElem?_push, if_neg c, if_neg c]
/-- a new variable stored whole -/
theorem run_store_new (w : World) (t : TypeId) (Z cs : Array Value) (hz : Z.size = cs.size) (hi : (Tryz.prog.info? t).map (·.size) = some cs.size) (h1 : cs.all (·.oneCell') = true) :
    (Instr.storeAt t (.pointer (some ⟨w.heap.size, 0, none⟩)) (.agg cs)).run Tryz.prog (w.alloc (.cells Z t)) = .ok () (w.alloc (.cells cs t)) := by
  simp only [Instr.storeAt, Instr.sureAddr, Sem.run_bind, Sem.run_pure, Result.andThen_ok, run_storeVar_row (w.alloc (.cells Z t)) w.heap.size t t Z cs (heap_alloc_new w _) hi hz h1, setRow_alloc4]
theorem wc_ones (x : Wr) : (wcell x).toArray.all (·.oneCell') = true := all_oneCell_toArray (wcell_ones x)
theorem u8_ones (b : List Int) : (U8 b).toArray.all (·.oneCell') = true := all_oneCell_toArray (ones_u8 b)
theorem run_store80 (w : World) (x : Wr) (hx : x.b.length = 64) : (Instr.storeAt 121 (.pointer (some ⟨w.heap.size, 0, none⟩)) (.agg (wcell x).toArray)).run Tryz.prog (w.alloc (.cells Z80 121)) = .ok () (w.alloc (.cells (wcell x).toArray 121)) :=
  run_store_new w 121 Z80 _ (by simp [Z80_size, wcell, hx]) (by rw [size80]; simp [wcell, hx]) (wc_ones x)
theorem run_store69 (w : World) (b : List Int) (hb : b.length = 64) : (Instr.storeAt 116 (.pointer (some ⟨w.heap.size, 0, none⟩)) (.agg (U8 b).toArray)).run Tryz.prog (w.alloc (.cells Z69 116)) = .ok () (w.alloc (.cells (U8 b).toArray 116)) :=
  run_store_new w 116 Z69 _ (by simp [Z69_size, hb]) (by rw [size69]; simp [hb]) (u8_ones b)
/-- '[]pending{x}' -/
theorem run_buildSlice73 (w : World) (x : Wr) (hx : x.b.length = 64) : (Instr.buildSlice 112 1 #[(0, .agg (wcell x).toArray)]).run Tryz.prog w = .ok (.slice (some ⟨w.heap.size, 0, none⟩) 1 1) (w.alloc (.cells (wcell x).toArray 121)) := by
  obtain ⟨i0, hi, hz0, hz1, hz2⟩ := info_parts info80
  refine run_buildSlice w 112 121 1 _ _ i0 _ Tryz.underlying112 hi hz0 (by rw [hz1]; decide) (by rw [hz1]; decide) ?_
  rw [hz1]
  have hl : (wcell x).length = 65 := by simp [wcell, hx]
  have hA : ∀ A : Array Value, A.size = 65 → Instr.fill (fun i => some (i * 65, 65)) A [(0, .agg (wcell x).toArray)] = some (wcell x).toArray := by
    intro A hA
    have a0 := part_fill4 0 (wcell x) A.toList (by simp; omega)
    simp only [Instr.fill, Value.cells, List.size_toArray, Nat.zero_mul]
    rw [if_neg (by simp [hl, hA])]
    have a0' : (wcell x).toArray.zipIdx.foldl (fun cs x => match x with | (c, j) => cs.setIfInBounds (0 + j) c) A = ((A.toList.take 0 ++ wcell x ++ A.toList.drop (0 + (wcell x).length))).toArray := a0
    rw [a0', List.drop_eq_nil_of_le (by simp [hl, hA])]
    simp
  exact hA _ (by simp)
/-- the same, as the walk meets them -/
theorem wp_val {o : Oper} {a : Act} {w w' : World} {v : Value} {K : Act → World → Prop} {Q : Exit → Act → World → Prop} (heq : (execOp a.eval o).run Tryz.prog w = .ok (.value v) w') (h : K (a.put o.dst v) w') : o.wp Tryz.prog a w K Q := by
  unfold Oper.wp; rw [heq]; exact h
theorem wp_skip' {o : Oper} {a : Act} {w w' : World} {K : Act → World → Prop} {Q : Exit → Act → World → Prop} (heq : (execOp a.eval o).run Tryz.prog w = .ok .skip w') (h : K (a.put o.dst undef) w') : o.wp Tryz.prog a w K Q := by
  unfold Oper.wp; rw [heq]; exact h
theorem wpList_alloc80 {ops : Array Oper} {rest : List Oper} {o : Oper} {a : Act} {w : World} {Q : Exit → Act → World → Prop} (hgd : o.guard = none) (ho : o.op = .alloc 121)
    (h : wpList Tryz.prog ops Q rest (a.put o.dst (.pointer (some ⟨w.heap.size, 0, none⟩))) (w.alloc (.cells Z80 121))) : wpList Tryz.prog ops Q (o :: rest) a w :=
  wpList_plain hgd fun _ hK => wp_val (by unfold execOp; simp only [ho, Sem.run_bind, run_alloc80, Result.andThen_ok, Sem.run_pure]) (hK _ _ h)
theorem wpList_alloc69 {ops : Array Oper} {rest : List Oper} {o : Oper} {a : Act} {w : World} {Q : Exit → Act → World → Prop} (hgd : o.guard = none) (ho : o.op = .alloc 116)
    (h : wpList Tryz.prog ops Q rest (a.put o.dst (.pointer (some ⟨w.heap.size, 0, none⟩))) (w.alloc (.cells Z69 116))) : wpList Tryz.prog ops Q (o :: rest) a w :=
  wpList_plain hgd fun _ hK => wp_val (by unfold execOp; simp only [ho, Sem.run_bind, run_alloc69, Result.andThen_ok, Sem.run_pure]) (hK _ _ h)
theorem wpList_build80 {ops : Array Oper} {rest : List Oper} {o : Oper} {a : Act} {w : World} {Q : Exit → Act → World → Prop} (hgd : o.guard = none) (x y : Operand) (ho : o.op = .build 121 #[(0, x), (1, y)]) (s : Nat) (b : List Int) (hx : a.eval x = .int .i64 s) (hy : a.eval y = .agg (U8 b).toArray) (hb : b.length = 64)
    (h : wpList Tryz.prog ops Q rest (a.put o.dst (.agg (wcell ⟨s, b⟩).toArray)) w) : wpList Tryz.prog ops Q (o :: rest) a w :=
  wpList_plain hgd fun _ hK => wp_val (by
    have e : (#[(0, x), (1, y)] : Array (Nat × Operand)).map (fun (i, x) => (i, a.eval x)) = #[(0, a.eval x), (1, a.eval y)] := by simp
    unfold execOp; simp only [ho]; rw [e, hx, hy]; simp only [Sem.run_bind, run_build80 w s b hb, Result.andThen_ok, Sem.run_pure]) (hK _ _ h)
theorem wpList_store80 {ops : Array Oper} {rest : List Oper} {o : Oper} {a : Act} {w : World} {Q : Exit → Act → World → Prop} (hgd : o.guard = none) (x y : Operand) (ho : o.op = .store 121 x y) (z : Wr) (hx : a.eval x = .pointer (some ⟨w.heap.size, 0, none⟩)) (hy : a.eval y = .agg (wcell z).toArray) (hz : z.b.length = 64)
    (h : wpList Tryz.prog ops Q rest (a.put o.dst undef) (w.alloc (.cells (wcell z).toArray 121))) : wpList Tryz.prog ops Q (o :: rest) a (w.alloc (.cells Z80 121)) :=
  wpList_plain hgd fun _ hK => wp_skip' (by unfold execOp; simp only [ho, hx, hy, Sem.run_bind, run_store80 w z hz, Result.andThen_ok, Sem.run_pure]) (hK _ _ h)
theorem wpList_store69 {ops : Array Oper} {rest : List Oper} {o : Oper} {a : Act} {w : World} {Q : Exit → Act → World → Prop} (hgd : o.guard = none) (x y : Operand) (ho : o.op = .store 116 x y) (b : List Int) (hx : a.eval x = .pointer (some ⟨w.heap.size, 0, none⟩)) (hy : a.eval y = .agg (U8 b).toArray) (hb : b.length = 64)
    (h : wpList Tryz.prog ops Q rest (a.put o.dst undef) (w.alloc (.cells (U8 b).toArray 116))) : wpList Tryz.prog ops Q (o :: rest) a (w.alloc (.cells Z69 116)) :=
  wpList_plain hgd fun _ hK => wp_skip' (by unfold execOp; simp only [ho, hx, hy, Sem.run_bind, run_store69 w b hb, Result.andThen_ok, Sem.run_pure]) (hK _ _ h)
theorem wp_buildSlice73 {o : Oper} {a : Act} {w : World} {K : Act → World → Prop} {Q : Exit → Act → World → Prop} (x : Operand) (ho : o.op = .buildSlice 112 1 #[(0, x)]) (z : Wr) (hx : a.eval x = .agg (wcell z).toArray) (hz : z.b.length = 64)
    (h : K (a.put o.dst (.slice (some ⟨w.heap.size, 0, none⟩) 1 1)) (w.alloc (.cells (wcell z).toArray 121))) : o.wp Tryz.prog a w K Q :=
  wp_val (by
    have e : (#[(0, x)] : Array (Nat × Operand)).map (fun (i, x) => (i, a.eval x)) = #[(0, a.eval x)] := by simp
    unfold execOp; simp only [ho]; rw [e, hx]; simp only [Sem.run_bind, run_buildSlice73 w z hz, Result.andThen_ok, Sem.run_pure]) h
theorem yields_build71 {ops : Array Oper} {S : World → Prop} {o : Oper} {a : Act} (hw : Region.wanted o (yielded ops a.tmps) = true) (x y : Operand) (ho : o.op = .build 118 #[(0, x), (1, y)]) (b c : List Int) (hx : a.eval x = .agg (U8 b).toArray) (hy : a.eval y = .agg (U8 c).toArray) (hb : b.length = 64) (hc : c.length = 64) : YieldsIf Tryz.prog ops S o (.agg (U8 b ++ U8 c).toArray) a :=
  .inl ⟨hw, fun w _ => by
    have e : (#[(0, x), (1, y)] : Array (Nat × Operand)).map (fun (i, x) => (i, a.eval x)) = #[(0, a.eval x), (1, a.eval y)] := by simp
    unfold execOp; simp only [ho]; rw [e, hx, hy]; simp only [Sem.run_bind, run_build71 w b c hb hc, Result.andThen_ok, Sem.run_pure]⟩
/-- what the new variable holds -/
theorem new_range (w : World) (cs : List Value) (t : TypeId) : (w.alloc (.cells cs.toArray t)).rangeAt w.heap.size 0 cs := fun j v hv => by
  rw [cell_of_row _ _ _ _ t (0, 0) (heap_alloc_new w _), Nat.zero_add, List.getElem?_toArray]; exact hv
theorem new_range_at (w : World) (cs ds : List Value) (o : Nat) (t : TypeId) (h : ∀ j v, ds[j]? = some v → cs[o + j]? = some v) : (w.alloc (.cells cs.toArray t)).rangeAt w.heap.size o ds := fun j v hv => by
  rw [cell_of_row _ _ _ _ t (0, 0) (heap_alloc_new w _), List.getElem?_toArray]; exact h j v hv
theorem wcell_data (x : Wr) : ∀ j v, (U8 x.b)[j]? = some v → (wcell x)[1 + j]? = some v := fun j v hv => by
  rw [Nat.add_comm]; simpa [wcell] using hv
theorem BIn.range {w : World} {g o n : Nat} {b : List Int} (h : BIn w (some ⟨g, o, none⟩) n b) : w.rangeAt g o (U8 b) := fun j v hv => by
  have := h.news j v hv
  rwa [Addr.add_mid] at this
end Go.Proofs.YtefnkjajjidfaaaGreatDoor
