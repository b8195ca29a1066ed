/-
  Layer 6: how a record lies in memory; what the operations on records and values do, said once.
-/
import Derived.Laws.StructEq
import Derived.Laws.ResultCell
import Derived.Laws.Rows
import Derived.Laws.Tables
import Derived.Deep.MidRow
import Derived.Laws.Cover3
import Derived.Great.FillDense
import Derived.Great.BuildSlice
import Derived.Test.YtefnkjajjidfaaaGreatDoorRRec
import Derived.Test.YtefnkjajjidfaaaGreatDoorKa
import Derived.Test.YtefnkjajjidfaaaGreatDoorLc
namespace Go.Proofs.YtefnkjajjidfaaaGreatDoor.R
open Go.RowKit
theorem size31 : (Tryz.prog.info? 87).map (·.size) = some 36 := by kernel_rfl
theorem size37 : (Tryz.prog.info? 77).map (·.size) = some 36 := by kernel_rfl
theorem size24 : (Tryz.prog.info? 55).map (·.size) = some 32 := by kernel_rfl
/-- a record's cells -/
def rcells (r : Rec) : List Value := .int .i64 r.kind :: .int .u64 r.pos :: .int .i64 r.block :: (U8 r.val ++ [.int .i64 r.images])
theorem rcells_len (r : Rec) (h : r.val.length = 32) : (rcells r).length = 36 := by simp [rcells, h]
theorem rcells_ones (r : Rec) : ∀ v ∈ rcells r, v.oneCell' = true := by
  intro v hv
  simp only [rcells, List.mem_cons, List.mem_append, List.not_mem_nil, or_false] at hv
  rcases hv with rfl | rfl | rfl | hv | rfl
  · rfl
  · rfl
  · rfl
  · exact ones_u8 _ v hv
  · rfl
theorem rcells_all (r : Rec) : (rcells r).toArray.all (·.oneCell') = true := all_oneCell_toArray (rcells_ones r)
theorem rcells_val (r : Rec) (j : Nat) (hj : j < r.val.length) : (rcells r)[3 + j]? = some (.int .u8 r.val[j]) := by
  rw [rcells, show 3 + j = j + 1 + 1 + 1 by omega, List.getElem?_cons_succ, List.getElem?_cons_succ, List.getElem?_cons_succ, List.getElem?_append_left (by simpa using hj)]
  simp [List.getElem?_eq_getElem hj]
theorem rcells_35 (r : Rec) (h : r.val.length = 32) : (rcells r)[35]? = some (.int .i64 r.images) := by
  rw [rcells, List.getElem?_cons_succ, List.getElem?_cons_succ, List.getElem?_cons_succ, List.getElem?_append_right (by simp [h])]
  simp [h]
/-- a record lies at the head of a block -/
def RAt (t : TypeId) (w : World) (g : Nat) (r : Rec) : Prop := w.heap[g]? = some (.cells (rcells r).toArray t (0, 0))
theorem RAt.lt {t : TypeId} {w : World} {g : Nat} {r : Rec} (h : RAt t w g r) : g < w.heap.size := (Array.getElem?_eq_some_iff.1 h).1
theorem RAt.later {t : TypeId} {w w' : World} {g : Nat} {r : Rec} (h : RAt t w g r) (hb : Below w.heap.size w w') : RAt t w' g r := (hb.block g h.lt).trans h
theorem RAt.below {t : TypeId} {B : Nat} {w w' : World} {g : Nat} {r : Rec} (h : RAt t w g r) (hb : Below B w w') (hg : g < B) : RAt t w' g r := (hb.block g hg).trans h
theorem RAt.new (t : TypeId) (w : World) (r : Rec) : RAt t (w.alloc (.cells (rcells r).toArray t)) w.heap.size r := heap_alloc_new w _
theorem RAt.drew {t : TypeId} {w : World} {g : Nat} {r : Rec} (h : RAt t w g r) : RAt t w.drew g r := h
theorem RAt.cell {t : TypeId} {w : World} {g : Nat} {r : Rec} (h : RAt t w g r) (j : Nat) : w.cell? ⟨g, j, none⟩ = (rcells r)[j]? := by
  rw [cell_of_row w g j (rcells r).toArray t (0, 0) h]; simp
theorem RAt.c0 {t : TypeId} {w : World} {g : Nat} {r : Rec} (h : RAt t w g r) : w.cell? ⟨g, 0, none⟩ = some (.int .i64 r.kind) := h.cell 0
theorem RAt.c1 {t : TypeId} {w : World} {g : Nat} {r : Rec} (h : RAt t w g r) : w.cell? ⟨g, 1, none⟩ = some (.int .u64 r.pos) := h.cell 1
theorem RAt.c2 {t : TypeId} {w : World} {g : Nat} {r : Rec} (h : RAt t w g r) : w.cell? ⟨g, 2, none⟩ = some (.int .i64 r.block) := h.cell 2
theorem RAt.c35 {t : TypeId} {w : World} {g : Nat} {r : Rec} (h : RAt t w g r) (hv : r.val.length = 32) : w.cell? ⟨g, 35, none⟩ = some (.int .i64 r.images) := (h.cell 35).trans (rcells_35 r hv)
theorem RAt.range {t : TypeId} {w : World} {g : Nat} {r : Rec} (h : RAt t w g r) : w.rangeAt g 0 (rcells r) := fun j v hv => by
  rw [Nat.zero_add, h.cell j]; exact hv
theorem RAt.vrange {t : TypeId} {w : World} {g : Nat} {r : Rec} (h : RAt t w g r) : w.rangeAt g 3 (U8 r.val) := fun j v hv => by
  have hj : j < r.val.length := by simpa using (List.getElem?_eq_some_iff.1 hv).1
  rw [h.cell (3 + j), rcells_val r j hj, ← hv]
  simp [List.getElem?_eq_getElem hj]
/-- loads -/
theorem RAt.load31 {t : TypeId} {w : World} {g : Nat} {r : Rec} (h : RAt t w g r) (hv : r.val.length = 32) : (Instr.loadAt 87 (.pointer (some ⟨g, 0, none⟩))).run Tryz.prog w = .ok (.agg (rcells r).toArray) w :=
  run_loadAt_mid w g 0 87 (rcells r) _ h.range Tryz.underlying87 rfl (by rw [size31, rcells_len r hv])
theorem RAt.load37 {t : TypeId} {w : World} {g : Nat} {r : Rec} (h : RAt t w g r) (hv : r.val.length = 32) : (Instr.loadAt 77 (.pointer (some ⟨g, 0, none⟩))).run Tryz.prog w = .ok (.agg (rcells r).toArray) w :=
  run_loadAt_mid w g 0 77 (rcells r) _ h.range Tryz.underlying77 rfl (by rw [size37, rcells_len r hv])
theorem RAt.load24 {t : TypeId} {w : World} {g : Nat} {r : Rec} (h : RAt t w g r) (hv : r.val.length = 32) : (Instr.loadAt 55 (.pointer (some ⟨g, 3, none⟩))).run Tryz.prog w = .ok (.agg (U8 r.val).toArray) w :=
  run_loadAt_mid w g 3 55 (U8 r.val) _ h.vrange Tryz.underlying55 rfl (by rw [size24, U8_length, hv])
def pl : List (Nat × Nat) := [(0, 1), (1, 1), (2, 1), (3, 32), (35, 1)]
theorem places31 : placesOf Tryz.prog 87 = some pl := by kernel_rfl
theorem places37 : placesOf Tryz.prog 77 = some pl := by kernel_rfl
theorem zero31 : (Tryz.prog.info? 87).bind (·.zero) = some (.agg (rcells rec0).toArray) := by kernel_rfl
theorem zero37 : (Tryz.prog.info? 77).bind (·.zero) = some (.agg (rcells rec0).toArray) := by kernel_rfl
theorem zero24 : (Tryz.prog.info? 55).bind (·.zero) = some (.agg (U8 (zs 32)).toArray) := by kernel_rfl
theorem fill_step (off n : Nat) (i : Nat) (hp : pl.toArray[i]? = some (off, n)) (v : Value) (vs cs : List Value) (hv : v.cells = vs.toArray) (hn : vs.length = n) (hl : off + n ≤ cs.length) (rest : List (Nat × Value)) :
    Instr.fill (pl.toArray[·]?) cs.toArray ((i, v) :: rest) = Instr.fill (pl.toArray[·]?) (cs.take off ++ vs ++ cs.drop (off + vs.length)).toArray rest := by
  have a0 := part_fill off vs cs (by omega)
  have a1 : vs.toArray.zipIdx.foldl (fun cs x => match x with | (c, j) => cs.setIfInBounds (off + j) c) cs.toArray = (cs.take off ++ vs ++ cs.drop (off + vs.length)).toArray := a0
  simp only [Instr.fill]
  rw [hp]
  dsimp only
  rw [hv]
  simp only [List.size_toArray]
  rw [if_neg (by simp [hn]; omega), a1]
theorem fill_k (r : Rec) (h : r.val.length = 32) (k : Int) (rest : List (Nat × Value)) : Instr.fill (pl.toArray[·]?) (rcells r).toArray ((0, .int .i64 k) :: rest) = Instr.fill (pl.toArray[·]?) (rcells ⟨k, r.pos, r.block, r.val, r.images⟩).toArray rest :=
  fill_step 0 1 0 rfl _ [.int .i64 k] _ rfl rfl (by rw [rcells_len r h]; omega) rest
theorem fill_p (r : Rec) (h : r.val.length = 32) (k : Int) (rest : List (Nat × Value)) : Instr.fill (pl.toArray[·]?) (rcells r).toArray ((1, .int .u64 k) :: rest) = Instr.fill (pl.toArray[·]?) (rcells ⟨r.kind, k, r.block, r.val, r.images⟩).toArray rest :=
  fill_step 1 1 1 rfl _ [.int .u64 k] _ rfl rfl (by rw [rcells_len r h]; omega) rest
theorem fill_b (r : Rec) (h : r.val.length = 32) (k : Int) (rest : List (Nat × Value)) : Instr.fill (pl.toArray[·]?) (rcells r).toArray ((2, .int .i64 k) :: rest) = Instr.fill (pl.toArray[·]?) (rcells ⟨r.kind, r.pos, k, r.val, r.images⟩).toArray rest :=
  fill_step 2 1 2 rfl _ [.int .i64 k] _ rfl rfl (by rw [rcells_len r h]; omega) rest
theorem fill_v (r : Rec) (h : r.val.length = 32) (v : List Int) (hv : v.length = 32) (rest : List (Nat × Value)) : Instr.fill (pl.toArray[·]?) (rcells r).toArray ((3, .agg (U8 v).toArray) :: rest) = Instr.fill (pl.toArray[·]?) (rcells ⟨r.kind, r.pos, r.block, v, r.images⟩).toArray rest := by
  rw [fill_step 3 32 3 rfl _ (U8 v) _ rfl (by rw [U8_length, hv]) (by rw [rcells_len r h]; omega) rest]
  congr 2
  rw [U8_length, hv]
  simp only [rcells, List.take_succ_cons, List.take_zero, List.cons_append, List.nil_append, List.drop_succ_cons]
  rw [List.drop_append, U8_length, h, List.drop_of_length_le (by rw [U8_length, h]; omega)]
  rfl
theorem fill_i (r : Rec) (h : r.val.length = 32) (k : Int) (rest : List (Nat × Value)) : Instr.fill (pl.toArray[·]?) (rcells r).toArray ((4, .int .i64 k) :: rest) = Instr.fill (pl.toArray[·]?) (rcells ⟨r.kind, r.pos, r.block, r.val, k⟩).toArray rest := by
  rw [fill_step 35 1 4 rfl _ [.int .i64 k] _ rfl rfl (by rw [rcells_len r h]; omega) rest]
  congr 2
  simp only [rcells, List.take_succ_cons, List.cons_append, List.drop_succ_cons, List.length_singleton]
  rw [List.take_append, U8_length, h, List.take_of_length_le (by rw [U8_length, h]; omega), List.drop_of_length_le (by simp [h])]
  simp
theorem fill_end (r : Rec) : Instr.fill (pl.toArray[·]?) (rcells r).toArray [] = some (rcells r).toArray := rfl
theorem build31 (w : World) (parts : Array (Nat × Value)) (r : Rec) (h : Instr.fill (pl.toArray[·]?) (rcells rec0).toArray parts.toList = some (rcells r).toArray) : (Instr.build 87 parts).run Tryz.prog w = .ok (.agg (rcells r).toArray) w :=
  run_build w 87 _ _ ((built_of 87 _ _ _ places31 zero31).trans h)
theorem build37 (w : World) (parts : Array (Nat × Value)) (r : Rec) (h : Instr.fill (pl.toArray[·]?) (rcells rec0).toArray parts.toList = some (rcells r).toArray) : (Instr.build 77 parts).run Tryz.prog w = .ok (.agg (rcells r).toArray) w :=
  run_build w 77 _ _ ((built_of 77 _ _ _ places37 zero37).trans h)
theorem rec0_len : rec0.val.length = 32 := zs_len 32
/-- equality -/
theorem sizeOf5 (w : World) : (sizeOf 5).run Tryz.prog w = .ok 1 w := by
  cases hi : Tryz.prog.info? 5 with
  | none => have := size5; simp [hi] at this
  | some i =>
    have h := size5
    simp only [hi, Option.map_some, Option.some.injEq] at h
    simp [sizeOf, typeInfo, hi, h]
theorem all_range_eq : ∀ (xs ys : List Int), xs.length = ys.length → ((List.range xs.length).all fun i => xs.getD i 0 == ys.getD i 0) = decide (xs = ys)
  | [], [], _ => rfl
  | x :: xs, y :: ys, h => by
    have ih := all_range_eq xs ys (by simpa using h)
    rw [List.length_cons, List.range_succ_eq_map, List.all_cons, List.all_map]
    simp only [List.getD_cons_zero, Function.comp_def, List.getD_cons_succ, ih]
    rw [Bool.eq_iff_iff]
    simp
  | [], _ :: _, h => by simp at h
  | _ :: _, [], h => by simp at h
theorem equal24 (w : World) (d : Nat) (xs ys : List Int) (hx : xs.length = 32) (hy : ys.length = 32) :
    (Op.equalIn (d + 2) 55 (.agg (U8 xs).toArray) (.agg (U8 ys).toArray)).run Tryz.prog w = .ok (decide (xs = ys)) w := by
  rw [← all_range_eq xs ys (hx.trans hy.symm), hx, List.range_eq_range', Op.equalIn]
  simp only [Sem.run_bind, run_underlying Tryz.underlying55, Result.andThen_ok, sizeOf5, Std.Legacy.Range.forIn_eq_forIn_range', Std.Legacy.Range.size, Nat.sub_zero, Nat.add_sub_cancel, Nat.div_one]
  have hl : ∀ i ∈ List.range' 0 32 1, i < 32 := fun i hi => by simpa using (List.mem_range'_1.1 hi).2
  generalize List.range' 0 32 1 = l at hl ⊢
  induction l with
  | nil => simp
  | cons i l ih =>
    have hi : i < 32 := hl i (by simp)
    have px : (part 5 (U8 xs).toArray (i * 1)).run Tryz.prog w = .ok (.int .u8 (xs.getD i 0)) w := by
      simp [part, isAgg, run_underlying Tryz.underlying5, List.getD, List.getElem?_eq_getElem (show i < xs.length by omega)]
    have py : (part 5 (U8 ys).toArray (i * 1)).run Tryz.prog w = .ok (.int .u8 (ys.getD i 0)) w := by
      simp [part, isAgg, run_underlying Tryz.underlying5, List.getD, List.getElem?_eq_getElem (show i < ys.length by omega)]
    have pe : (Op.equalIn (d + 1) 5 (.int .u8 (xs.getD i 0)) (.int .u8 (ys.getD i 0))).run Tryz.prog w = .ok (xs.getD i 0 == ys.getD i 0) w := run_equalIn_int w d 5 .u8 .u8 _ _ Tryz.underlying5
    simp only [List.forIn_cons, Sem.run_bind, px, py, pe, Result.andThen_ok, List.all_cons]
    cases hb : (xs.getD i 0 == ys.getD i 0)
    · simp
    · simp only [Bool.not_true, Bool.false_eq_true, if_false, Sem.run_pure, Result.andThen_ok, Bool.true_and]
      exact ih fun j hj => hl j (by simp [hj])
theorem eql24 (w : World) (xs ys : List Int) (hx : xs.length = 32) (hy : ys.length = 32) :
    (binOp .eql 55 (.agg (U8 xs).toArray) (.agg (U8 ys).toArray)).run Tryz.prog w = .ok (.bool (decide (xs = ys))) w := by
  rw [run_eql_struct, equal24 w 9998 xs ys hx hy]
  rfl
theorem eqg24 : Tryz.prog.eqGuardType Tryz.prog.depth 55 = false := by kernel_rfl
theorem eqg31 : Tryz.prog.eqGuardType Tryz.prog.depth 87 = false := by kernel_rfl
theorem eqg37 : Tryz.prog.eqGuardType Tryz.prog.depth 77 = false := by kernel_rfl
theorem build24 (w : World) : (Instr.build 55 #[]).run Tryz.prog w = .ok (.agg (U8 (zs 32)).toArray) w := run_build w 55 _ _ (by kernel_rfl)
/-- records: equal if all parts are -/
theorem rec_eq (r s : Rec) : r = s ↔ r.kind = s.kind ∧ r.pos = s.pos ∧ r.block = s.block ∧ r.val = s.val ∧ r.images = s.images := by
  constructor
  · rintro rfl; exact ⟨rfl, rfl, rfl, rfl, rfl⟩
  · obtain ⟨a, b, c, d, e⟩ := r
    obtain ⟨a', b', c', d', e'⟩ := s
    rintro ⟨h1, h2, h3, h4, h5⟩
    simp only at h1 h2 h3 h4 h5
    subst h1 h2 h3 h4 h5
    rfl
def recB (r s : Rec) : Bool := r.kind == s.kind && (r.pos == s.pos && (r.block == s.block && (decide (r.val = s.val) && r.images == s.images)))
theorem recB_iff (r s : Rec) : recB r s = true ↔ r = s := by rw [rec_eq]; simp [recB]
theorem recB_same (r : Rec) : recB r r = true := (recB_iff r r).2 rfl
theorem recB_not (r s : Rec) (h : r ≠ s) : recB r s = false := by
  cases hb : recB r s with
  | false => rfl
  | true => exact absurd ((recB_iff r s).1 hb) h
section
variable {P : Program} {ops : Array Oper} {rest : List Oper} {o : Oper} {a : Act} {w w' : World} {Q : Exit → Act → World → Prop}
end
theorem alloc31 (w : World) : (Instr.alloc 87 true (.tuple #[])).run Tryz.prog w = .ok (.pointer (some ⟨w.heap.size, 0, none⟩)) (w.alloc (.cells (rcells rec0).toArray 87)) := by
  simp only [Instr.alloc, Sem.run_bind, zv 87 _ zero31, Result.andThen_ok]
  simp [newVar, newRow, Value.cells]
theorem alloc37 (w : World) : (Instr.alloc 77 true (.tuple #[])).run Tryz.prog w = .ok (.pointer (some ⟨w.heap.size, 0, none⟩)) (w.alloc (.cells (rcells rec0).toArray 77)) := by
  simp only [Instr.alloc, Sem.run_bind, zv 77 _ zero37, Result.andThen_ok]
  simp [newVar, newRow, Value.cells]
theorem alloc24 (w : World) : (Instr.alloc 55 true (.tuple #[])).run Tryz.prog w = .ok (.pointer (some ⟨w.heap.size, 0, none⟩)) (w.alloc (.cells (U8 (zs 32)).toArray 55)) := by
  simp only [Instr.alloc, Sem.run_bind, zv 55 _ zero24, Result.andThen_ok]
  simp [newVar, newRow, Value.cells]
theorem RAt.store {t : TypeId} (ht : (Tryz.prog.info? t).map (·.size) = some 36) {w : World} {g : Nat} {r s : Rec} (h : RAt t w g r) (hr : r.val.length = 32) (hs : s.val.length = 32) :
    (Instr.storeAt t (.pointer (some ⟨g, 0, none⟩)) (.agg (rcells s).toArray)).run Tryz.prog w = .ok () (w.setRow g (rcells s).toArray) := by
  simp only [Instr.storeAt, Instr.sureAddr, Sem.run_bind, Sem.run_pure, Result.andThen_ok, run_storeVar_row w g t t (rcells r).toArray (rcells s).toArray h (by rw [ht, List.size_toArray, rcells_len s hs]) (by rw [List.size_toArray, List.size_toArray, rcells_len s hs, rcells_len r hr]) (rcells_all s)]
theorem RAt.stored {t : TypeId} {w : World} {g : Nat} {r : Rec} (h : RAt t w g r) (s : Rec) : RAt t (w.setRow g (rcells s).toArray) g s := setRow_heap w g _ _ t (0, 0) h
theorem RAt.other {t : TypeId} {w : World} {g k : Nat} {r : Rec} (h : RAt t w g r) (cs : Array Value) (hk : g ≠ k) : RAt t (w.setRow k cs) g r := (setRow_other w k g cs hk).trans h
theorem store_new {t : TypeId} (ht : (Tryz.prog.info? t).map (·.size) = some 36) (w : World) (s : Rec) (hs : s.val.length = 32) :
    (Instr.storeAt t (.pointer (some ⟨w.heap.size, 0, none⟩)) (.agg (rcells s).toArray)).run Tryz.prog (w.alloc (.cells (rcells rec0).toArray t)) = .ok () (w.alloc (.cells (rcells s).toArray t)) := by
  rw [RAt.store ht (RAt.new t w rec0) rec0_len hs, setRow_alloc]
theorem flds31 : Tryz.prog.underlying 87 = some (.struct (Tryz.prog.fieldsOf 87)) := by kernel_rfl
theorem flds37 : Tryz.prog.underlying 77 = some (.struct (Tryz.prog.fieldsOf 77)) := by kernel_rfl
theorem held31 : Tryz.prog.stoodInHeld 87 = false := by kernel_rfl
theorem held37 : Tryz.prog.stoodInHeld 77 = false := by kernel_rfl
def fl5 : List (Bool × TypeId × Nat) := [(true, 3, 0), (true, 31, 1), (true, 3, 2), (true, 55, 3), (true, 3, 35)]
theorem fl31 : fl Tryz.prog 87 = fl5 := by kernel_rfl
theorem fl37 : fl Tryz.prog 77 = fl5 := by kernel_rfl
theorem part29 (w : World) (cs : List Value) (o : Nat) (v : Int) (h : cs[o]? = some (.int .u64 v)) : (part 31 cs.toArray o).run Tryz.prog w = .ok (.int .u64 v) w := by
  simp [part, isAgg, run_underlying Tryz.underlying31, h]
theorem sizeOf24 (w : World) : (sizeOf 55).run Tryz.prog w = .ok 32 w := by
  cases hi : Tryz.prog.info? 55 with
  | none => have := size24; simp [hi] at this
  | some i =>
    have h := size24
    simp only [hi, Option.map_some, Option.some.injEq] at h
    simp [sizeOf, typeInfo, hi, h]
theorem part24 (w : World) (r : Rec) (h : r.val.length = 32) : (part 55 (rcells r).toArray 3).run Tryz.prog w = .ok (.agg (U8 r.val).toArray) w := by
  have e : (rcells r).toArray.extract 3 35 = (U8 r.val).toArray := by
    apply Array.ext_getElem?
    intro k
    by_cases hk : k < 32
    · rw [Array.getElem?_extract]
      simp only [List.size_toArray, rcells_len r h, List.getElem?_toArray]
      rw [if_pos (by omega), rcells_val r k (by omega)]
      simp [List.getElem?_eq_getElem (show k < r.val.length by omega)]
    · rw [Array.getElem?_eq_none (by simp [rcells_len r h]; omega), Array.getElem?_eq_none (by simp [h]; omega)]
  have hagg : (isAgg 55).run Tryz.prog w = .ok true w := by
    unfold isAgg
    rw [Sem.run_bind, run_underlying Tryz.underlying55 w]
    rfl
  simp only [part, Sem.run_bind, hagg, Result.andThen_ok, if_true, sizeOf24, Sem.run_pure]
  rw [e]
theorem equal5 (w : World) (d : Nat) (r s : Rec) (hr : r.val.length = 32) (hs : s.val.length = 32) : (eqParts (d + 2) (rcells r).toArray (rcells s).toArray fl5).run Tryz.prog w = .ok (recB r s) w := by
  unfold fl5 recB
  rw [eqParts_cons w _ _ _ 3 0 _ (part3 w (rcells r) 0 r.kind rfl) (part3 w (rcells s) 0 s.kind rfl) (run_equalIn_int w (d + 1) 3 .i64 .i64 _ _ Tryz.underlying3),
    eqParts_cons w _ _ _ 31 1 _ (part29 w (rcells r) 1 r.pos rfl) (part29 w (rcells s) 1 s.pos rfl) (run_equalIn_int w (d + 1) 31 .u64 .u64 _ _ Tryz.underlying31),
    eqParts_cons w _ _ _ 3 2 _ (part3 w (rcells r) 2 r.block rfl) (part3 w (rcells s) 2 s.block rfl) (run_equalIn_int w (d + 1) 3 .i64 .i64 _ _ Tryz.underlying3),
    eqParts_cons w _ _ _ 55 3 _ (part24 w r hr) (part24 w s hs) (equal24 w d r.val s.val hr hs),
    eqParts_cons w _ _ _ 3 35 _ (part3 w (rcells r) 35 r.images (rcells_35 r hr)) (part3 w (rcells s) 35 s.images (rcells_35 s hs)) (run_equalIn_int w (d + 1) 3 .i64 .i64 _ _ Tryz.underlying3)]
  have e0 : (eqParts (d + 2) (rcells r).toArray (rcells s).toArray []).run Tryz.prog w = .ok true w := by rw [eqParts]; exact Sem.run_pure ..
  rw [e0]
  cases (r.kind == s.kind) <;> cases (r.pos == s.pos) <;> cases (r.block == s.block) <;> cases (decide (r.val = s.val)) <;> cases (r.images == s.images) <;> simp
theorem eql31 (w : World) (r s : Rec) (hr : r.val.length = 32) (hs : s.val.length = 32) : (binOp .eql 87 (.agg (rcells r).toArray) (.agg (rcells s).toArray)).run Tryz.prog w = .ok (.bool (recB r s)) w := by
  rw [run_eql_struct, run_equalIn_struct w 9999 87 _ _ flds31 held31, eqParts_of, show (Tryz.prog.fieldsOf 87).toList.map (fun f => (decide (f.name ≠ "_"), f.type, f.offset)) = fl5 from fl31, equal5 w 9997 r s hr hs]
  rfl
theorem neq31 (w : World) (r s : Rec) (hr : r.val.length = 32) (hs : s.val.length = 32) : (binOp .neq 87 (.agg (rcells r).toArray) (.agg (rcells s).toArray)).run Tryz.prog w = .ok (.bool (!recB r s)) w := by
  rw [run_neq_struct, run_equalIn_struct w 9999 87 _ _ flds31 held31, eqParts_of, show (Tryz.prog.fieldsOf 87).toList.map (fun f => (decide (f.name ≠ "_"), f.type, f.offset)) = fl5 from fl31, equal5 w 9997 r s hr hs]
  rfl
theorem eql37 (w : World) (r s : Rec) (hr : r.val.length = 32) (hs : s.val.length = 32) : (binOp .eql 77 (.agg (rcells r).toArray) (.agg (rcells s).toArray)).run Tryz.prog w = .ok (.bool (recB r s)) w := by
  rw [run_eql_struct, run_equalIn_struct w 9999 77 _ _ flds37 held37, eqParts_of, show (Tryz.prog.fieldsOf 77).toList.map (fun f => (decide (f.name ≠ "_"), f.type, f.offset)) = fl5 from fl37, equal5 w 9997 r s hr hs]
  rfl
theorem neq37 (w : World) (r s : Rec) (hr : r.val.length = 32) (hs : s.val.length = 32) : (binOp .neq 77 (.agg (rcells r).toArray) (.agg (rcells s).toArray)).run Tryz.prog w = .ok (.bool (!recB r s)) w := by
  rw [run_neq_struct, run_equalIn_struct w 9999 77 _ _ flds37 held37, eqParts_of, show (Tryz.prog.fieldsOf 77).toList.map (fun f => (decide (f.name ≠ "_"), f.type, f.offset)) = fl5 from fl37, equal5 w 9997 r s hr hs]
  rfl
/-- what a call hands back: a record and a number -/
theorem results_rec {fn : Func} {p u : Tmp} {ty : TypeId} (h : fn.results = #[.cell p ty, .tmp u]) (tmps : Array Value) (w : World) (g : Nat) (t : TypeId) (r : Rec) (d : TypeDesc)
    (hp : tmps.getD p undef = .pointer (some ⟨g, 0, none⟩)) (hg : RAt t w g r) (hv : r.val.length = 32) (hu : Tryz.prog.underlying ty = some d) (hd : d.isRow = true) (hi : (Tryz.prog.info? ty).map (·.size) = some 36) :
    (results fn tmps).run Tryz.prog w = .ok (.tuple #[.agg (rcells r).toArray, tmps.getD u undef]) w := by
  rw [results_cell_tmp h, hp]
  simp only [asAddr, Sem.run_pure, Result.andThen_ok, run_loadVar_mid w g 0 ty _ d hg.range hu hd (by rw [hi, rcells_len r hv])]
theorem results_cell1 {fn : Func} {p : Tmp} {ty : TypeId} (h : fn.results = #[.cell p ty]) (tmps : Array Value) (w : World) (g : Nat) (t : TypeId) (r : Rec) (d : TypeDesc)
    (hp : tmps.getD p undef = .pointer (some ⟨g, 0, none⟩)) (hg : RAt t w g r) (hv : r.val.length = 32) (hu : Tryz.prog.underlying ty = some d) (hd : d.isRow = true) (hi : (Tryz.prog.info? ty).map (·.size) = some 36) :
    (results fn tmps).run Tryz.prog w = .ok (.agg (rcells r).toArray) w := by
  have hp' : tmps[p]?.getD undef = .pointer (some ⟨g, 0, none⟩) := by simpa using hp
  simp [results, h, hp', asAddr, run_loadVar_mid w g 0 ty _ d hg.range hu hd (by rw [hi, rcells_len r hv])]
end Go.Proofs.YtefnkjajjidfaaaGreatDoor.R
