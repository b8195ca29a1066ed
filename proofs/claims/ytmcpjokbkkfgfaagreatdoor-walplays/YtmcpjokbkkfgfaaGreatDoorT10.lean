/-
  Layer 6: how a record lies in memory; what the operations on records and values do, said once.
-/
import Derived.Laws.StructEq
import Derived.Laws.ResultCell
import Derived.Laws.Rows
import Derived.Laws.Tables
import Derived.Deep.MidRow
import Derived.Laws.Cover3
import Derived.Great.FillDense
import Derived.Great.BuildSlice
import Derived.Test.YtmcpjokbkkfgfaaGreatDoorT03
import Derived.Test.YtmcpjokbkkfgfaaGreatDoorT05
import Derived.Test.YtmcpjokbkkfgfaaGreatDoorT06
import Derived.Deep.RegionHeld3
namespace Go.Proofs.YtmcpjokbkkfgfaaGreatDoor.R
open Go.RowKit
theorem size31 : (Tryz.prog.info? 62).map (·.size) = some 36 := by kernel_rfl
theorem size37 : (Tryz.prog.info? 87).map (·.size) = some 36 := by kernel_rfl
theorem size24 : (Tryz.prog.info? 49).map (·.size) = some 32 := by kernel_rfl
/-- a record's cells -/
def rcells (r : Rec) : List Value := .int .i64 r.kind :: .int .u64 r.pos :: .int .i64 r.block :: (U8 r.val ++ [.int .i64 r.images])
theorem rcells_len (r : Rec) (h : r.val.length = 32) : (rcells r).length = 36 := by simp [rcells, h]
theorem rcells_ones (r : Rec) : ∀ v ∈ rcells r, v.oneCell' = true := by
  intro v hv
  simp only [rcells, List.mem_cons, List.mem_append, List.not_mem_nil, or_false] at hv
  rcases hv with rfl | rfl | rfl | hv | rfl
  · rfl
  · rfl
  · rfl
  · exact ones_u8 _ v hv
  · rfl
theorem rcells_all (r : Rec) : (rcells r).toArray.all (·.oneCell') = true := all_oneCell_toArray (rcells_ones r)
theorem rcells_val (r : Rec) (j : Nat) (hj : j < r.val.length) : (rcells r)[3 + j]? = some (.int .u8 r.val[j]) := by
  rw [rcells, show 3 + j = j + 1 + 1 + 1 by omega, List.getElem?_cons_succ, List.getElem?_cons_succ, List.getElem?_cons_succ, List.getElem?_append_left (by simpa using hj)]
  simp [List.getElem?_eq_getElem hj]
theorem rcells_35 (r : Rec) (h : r.val.length = 32) : (rcells r)[35]? = some (.int .i64 r.images) := by
  rw [rcells, List.getElem?_cons_succ, List.getElem?_cons_succ, List.getElem?_cons_succ, List.getElem?_append_right (by simp [h])]
  simp [h]
/-- a record lies at the head of a block -/
def RAt (t : TypeId) (w : World) (g : Nat) (r : Rec) : Prop := w.heap[g]? = some (.cells (rcells r).toArray t (0, 0))
theorem RAt.lt {t : TypeId} {w : World} {g : Nat} {r : Rec} (h : RAt t w g r) : g < w.heap.size := (Array.getElem?_eq_some_iff.1 h).1
theorem RAt.later {t : TypeId} {w w' : World} {g : Nat} {r : Rec} (h : RAt t w g r) (hb : Below w.heap.size w w') : RAt t w' g r := (hb.block g h.lt).trans h
theorem RAt.below {t : TypeId} {B : Nat} {w w' : World} {g : Nat} {r : Rec} (h : RAt t w g r) (hb : Below B w w') (hg : g < B) : RAt t w' g r := (hb.block g hg).trans h
theorem RAt.new (t : TypeId) (w : World) (r : Rec) : RAt t (w.alloc (.cells (rcells r).toArray t)) w.heap.size r := heap_alloc_new w _
theorem RAt.drew {t : TypeId} {w : World} {g : Nat} {r : Rec} (h : RAt t w g r) : RAt t w.drew g r := h
theorem RAt.cell {t : TypeId} {w : World} {g : Nat} {r : Rec} (h : RAt t w g r) (j : Nat) : w.cell? ⟨g, j, none⟩ = (rcells r)[j]? := by
  rw [cell_of_row w g j (rcells r).toArray t (0, 0) h]; simp
theorem RAt.c0 {t : TypeId} {w : World} {g : Nat} {r : Rec} (h : RAt t w g r) : w.cell? ⟨g, 0, none⟩ = some (.int .i64 r.kind) := h.cell 0
theorem RAt.c1 {t : TypeId} {w : World} {g : Nat} {r : Rec} (h : RAt t w g r) : w.cell? ⟨g, 1, none⟩ = some (.int .u64 r.pos) := h.cell 1
theorem RAt.c2 {t : TypeId} {w : World} {g : Nat} {r : Rec} (h : RAt t w g r) : w.cell? ⟨g, 2, none⟩ = some (.int .i64 r.block) := h.cell 2
theorem RAt.c35 {t : TypeId} {w : World} {g : Nat} {r : Rec} (h : RAt t w g r) (hv : r.val.length = 32) : w.cell? ⟨g, 35, none⟩ = some (.int .i64 r.images) := (h.cell 35).trans (rcells_35 r hv)
theorem RAt.range {t : TypeId} {w : World} {g : Nat} {r : Rec} (h : RAt t w g r) : w.rangeAt g 0 (rcells r) := fun j v hv => by
  rw [Nat.zero_add, h.cell j]; exact hv
theorem RAt.vrange {t : TypeId} {w : World} {g : Nat} {r : Rec} (h : RAt t w g r) : w.rangeAt g 3 (U8 r.val) := fun j v hv => by
  have hj : j < r.val.length := by simpa using (List.getElem?_eq_some_iff.1 hv).1
  rw [h.cell (3 + j), rcells_val r j hj, ← hv]
  simp [List.getElem?_eq_getElem hj]
/-- loads -/
theorem RAt.load31 {t : TypeId} {w : World} {g : Nat} {r : Rec} (h : RAt t w g r) (hv : r.val.length = 32) : (Instr.loadAt 62 (.pointer (some ⟨g, 0, none⟩))).run Tryz.prog w = .ok (.agg (rcells r).toArray) w :=
  run_loadAt_mid w g 0 62 (rcells r) _ h.range Tryz.underlying62 rfl (by rw [size31, rcells_len r hv])
theorem RAt.load37 {t : TypeId} {w : World} {g : Nat} {r : Rec} (h : RAt t w g r) (hv : r.val.length = 32) : (Instr.loadAt 87 (.pointer (some ⟨g, 0, none⟩))).run Tryz.prog w = .ok (.agg (rcells r).toArray) w :=
  run_loadAt_mid w g 0 87 (rcells r) _ h.range Tryz.underlying87 rfl (by rw [size37, rcells_len r hv])
theorem RAt.load24 {t : TypeId} {w : World} {g : Nat} {r : Rec} (h : RAt t w g r) (hv : r.val.length = 32) : (Instr.loadAt 49 (.pointer (some ⟨g, 3, none⟩))).run Tryz.prog w = .ok (.agg (U8 r.val).toArray) w :=
  run_loadAt_mid w g 3 49 (U8 r.val) _ h.vrange Tryz.underlying49 rfl (by rw [size24, U8_length, hv])
def pl : List (Nat × Nat) := [(0, 1), (1, 1), (2, 1), (3, 32), (35, 1)]
theorem places31 : placesOf Tryz.prog 62 = some pl := by kernel_rfl
theorem places37 : placesOf Tryz.prog 87 = some pl := by kernel_rfl
theorem zero31 : (Tryz.prog.info? 62).bind (·.zero) = some (.agg (rcells rec0).toArray) := by kernel_rfl
theorem zero37 : (Tryz.prog.info? 87).bind (·.zero) = some (.agg (rcells rec0).toArray) := by kernel_rfl
theorem zero24 : (Tryz.prog.info? 49).bind (·.zero) = some (.agg (U8 (zs 32)).toArray) := by kernel_rfl
theorem fill_step (off n : Nat) (i : Nat) (hp : pl.toArray[i]? = some (off, n)) (v : Value) (vs cs : List Value) (hv : v.cells = vs.toArray) (hn : vs.length = n) (hl : off + n ≤ cs.length) (rest : List (Nat × Value)) :
    Instr.fill (pl.toArray[·]?) cs.toArray ((i, v) :: rest) = Instr.fill (pl.toArray[·]?) (cs.take off ++ vs ++ cs.drop (off + vs.length)).toArray rest := by
  have a0 := part_fill off vs cs (by omega)
  have a1 : vs.toArray.zipIdx.foldl (fun cs x => match x with | (c, j) => cs.setIfInBounds (off + j) c) cs.toArray = (cs.take off ++ vs ++ cs.drop (off + vs.length)).toArray := a0
  simp only [Instr.fill]
  rw [hp]
  dsimp only
  rw [hv]
  simp only [List.size_toArray]
  rw [if_neg (by simp [hn]; omega), a1]
theorem fill_k (r : Rec) (h : r.val.length = 32) (k : Int) (rest : List (Nat × Value)) : Instr.fill (pl.toArray[·]?) (rcells r).toArray ((0, .int .i64 k) :: rest) = Instr.fill (pl.toArray[·]?) (rcells ⟨k, r.pos, r.block, r.val, r.images⟩).toArray rest :=
  fill_step 0 1 0 rfl _ [.int .i64 k] _ rfl rfl (by rw [rcells_len r h]; omega) rest
theorem fill_p (r : Rec) (h : r.val.length = 32) (k : Int) (rest : List (Nat × Value)) : Instr.fill (pl.toArray[·]?) (rcells r).toArray ((1, .int .u64 k) :: rest) = Instr.fill (pl.toArray[·]?) (rcells ⟨r.kind, k, r.block, r.val, r.images⟩).toArray rest :=
  fill_step 1 1 1 rfl _ [.int .u64 k] _ rfl rfl (by rw [rcells_len r h]; omega) rest
theorem fill_b (r : Rec) (h : r.val.length = 32) (k : Int) (rest : List (Nat × Value)) : Instr.fill (pl.toArray[·]?) (rcells r).toArray ((2, .int .i64 k) :: rest) = Instr.fill (pl.toArray[·]?) (rcells ⟨r.kind, r.pos, k, r.val, r.images⟩).toArray rest :=
  fill_step 2 1 2 rfl _ [.int .i64 k] _ rfl rfl (by rw [rcells_len r h]; omega) rest
theorem fill_v (r : Rec) (h : r.val.length = 32) (v : List Int) (hv : v.length = 32) (rest : List (Nat × Value)) : Instr.fill (pl.toArray[·]?) (rcells r).toArray ((3, .agg (U8 v).toArray) :: rest) = Instr.fill (pl.toArray[·]?) (rcells ⟨r.kind, r.pos, r.block, v, r.images⟩).toArray rest := by
  rw [fill_step 3 32 3 rfl _ (U8 v) _ rfl (by rw [U8_length, hv]) (by rw [rcells_len r h]; omega) rest]
  congr 2
  rw [U8_length, hv]
  simp only [rcells, List.take_succ_cons, List.take_zero, List.cons_append, List.nil_append, List.drop_succ_cons]
  rw [List.drop_append, U8_length, h, List.drop_of_length_le (by rw [U8_length, h]; omega)]
  rfl
theorem fill_i (r : Rec) (h : r.val.length = 32) (k : Int) (rest : List (Nat × Value)) : Instr.fill (pl.toArray[·]?) (rcells r).toArray ((4, .int .i64 k) :: rest) = Instr.fill (pl.toArray[·]?) (rcells ⟨r.kind, r.pos, r.block, r.val, k⟩).toArray rest := by
  rw [fill_step 35 1 4 rfl _ [.int .i64 k] _ rfl rfl (by rw [rcells_len r h]; omega) rest]
  congr 2
  simp only [rcells, List.take_succ_cons, List.cons_append, List.drop_succ_cons, List.length_singleton]
  rw [List.take_append, U8_length, h, List.take_of_length_le (by rw [U8_length, h]; omega), List.drop_of_length_le (by simp [h])]
  simp
theorem fill_end (r : Rec) : Instr.fill (pl.toArray[·]?) (rcells r).toArray [] = some (rcells r).toArray := rfl
theorem build31 (w : World) (parts : Array (Nat × Value)) (r : Rec) (h : Instr.fill (pl.toArray[·]?) (rcells rec0).toArray parts.toList = some (rcells r).toArray) : (Instr.build 62 parts).run Tryz.prog w = .ok (.agg (rcells r).toArray) w :=
  run_build w 62 _ _ ((built_of 62 _ _ _ places31 zero31).trans h)
theorem build37 (w : World) (parts : Array (Nat × Value)) (r : Rec) (h : Instr.fill (pl.toArray[·]?) (rcells rec0).toArray parts.toList = some (rcells r).toArray) : (Instr.build 87 parts).run Tryz.prog w = .ok (.agg (rcells r).toArray) w :=
  run_build w 87 _ _ ((built_of 87 _ _ _ places37 zero37).trans h)
theorem rec0_len : rec0.val.length = 32 := zs_len 32
/-- equality -/
theorem sizeOf5 (w : World) : (sizeOf 5).run Tryz.prog w = .ok 1 w := by
  cases hi : Tryz.prog.info? 5 with
  | none => have := size5; simp [hi] at this
  | some i =>
    have h := size5
    simp only [hi, Option.map_some, Option.some.injEq] at h
    simp [sizeOf, typeInfo, hi, h]
theorem all_range_eq : ∀ (xs ys : List Int), xs.length = ys.length → ((List.range xs.length).all fun i => xs.getD i 0 == ys.getD i 0) = decide (xs = ys)
  | [], [], _ => rfl
  | x :: xs, y :: ys, h => by
    have ih := all_range_eq xs ys (by simpa using h)
    rw [List.length_cons, List.range_succ_eq_map, List.all_cons, List.all_map]
    simp only [List.getD_cons_zero, Function.comp_def, List.getD_cons_succ, ih]
    rw [Bool.eq_iff_iff]
    simp
  | [], _ :: _, h => by simp at h
  | _ :: _, [], h => by simp at h
theorem equal24 (w : World) (d : Nat) (xs ys : List Int) (hx : xs.length = 32) (hy : ys.length = 32) :
    (Op.equalIn (d + 2) 49 (.agg (U8 xs).toArray) (.agg (U8 ys).toArray)).run Tryz.prog w = .ok (decide (xs = ys)) w := by
  rw [← all_range_eq xs ys (hx.trans hy.symm), hx, List.range_eq_range', Op.equalIn]
  simp only [Sem.run_bind, run_underlying Tryz.underlying49, Result.andThen_ok, sizeOf5, Std.Legacy.Range.forIn_eq_forIn_range', Std.Legacy.Range.size, Nat.sub_zero, Nat.add_sub_cancel, Nat.div_one]
  have hl : ∀ i ∈ List.range' 0 32 1, i < 32 := fun i hi => by simpa using (List.mem_range'_1.1 hi).2
  generalize List.range' 0 32 1 = l at hl ⊢
  induction l with
  | nil => simp
  | cons i l ih =>
    have hi : i < 32 := hl i (by simp)
    have px : (part 5 (U8 xs).toArray (i * 1)).run Tryz.prog w = .ok (.int .u8 (xs.getD i 0)) w := by
      simp [part, isAgg, run_underlying Tryz.underlying5, List.getD, List.getElem?_eq_getElem (show i < xs.length by omega)]
    have py : (part 5 (U8 ys).toArray (i * 1)).run Tryz.prog w = .ok (.int .u8 (ys.getD i 0)) w := by
      simp [part, isAgg, run_underlying Tryz.underlying5, List.getD, List.getElem?_eq_getElem (show i < ys.length by omega)]
    have pe : (Op.equalIn (d + 1) 5 (.int .u8 (xs.getD i 0)) (.int .u8 (ys.getD i 0))).run Tryz.prog w = .ok (xs.getD i 0 == ys.getD i 0) w := run_equalIn_int w d 5 .u8 .u8 _ _ Tryz.underlying5
    simp only [List.forIn_cons, Sem.run_bind, px, py, pe, Result.andThen_ok, List.all_cons]
    cases hb : (xs.getD i 0 == ys.getD i 0)
    · simp
    · simp only [Bool.not_true, Bool.false_eq_true, if_false, Sem.run_pure, Result.andThen_ok, Bool.true_and]
      exact ih fun j hj => hl j (by simp [hj])
theorem eql24 (w : World) (xs ys : List Int) (hx : xs.length = 32) (hy : ys.length = 32) :
    (binOp .eql 49 (.agg (U8 xs).toArray) (.agg (U8 ys).toArray)).run Tryz.prog w = .ok (.bool (decide (xs = ys))) w := by
  rw [run_eql_struct, equal24 w 9998 xs ys hx hy]
  rfl
theorem eqg24 : Tryz.prog.eqGuardType Tryz.prog.depth 49 = false := by kernel_rfl
theorem eqg31 : Tryz.prog.eqGuardType Tryz.prog.depth 62 = false := by kernel_rfl
theorem eqg37 : Tryz.prog.eqGuardType Tryz.prog.depth 87 = false := by kernel_rfl
theorem build24 (w : World) : (Instr.build 49 #[]).run Tryz.prog w = .ok (.agg (U8 (zs 32)).toArray) w := run_build w 49 _ _ (by kernel_rfl)
/-- records: equal if all parts are -/
theorem rec_eq (r s : Rec) : r = s ↔ r.kind = s.kind ∧ r.pos = s.pos ∧ r.block = s.block ∧ r.val = s.val ∧ r.images = s.images := by
  constructor
  · rintro rfl; exact ⟨rfl, rfl, rfl, rfl, rfl⟩
  · obtain ⟨a, b, c, d, e⟩ := r
    obtain ⟨a', b', c', d', e'⟩ := s
    rintro ⟨h1, h2, h3, h4, h5⟩
    simp only at h1 h2 h3 h4 h5
    subst h1 h2 h3 h4 h5
    rfl
def recB (r s : Rec) : Bool := r.kind == s.kind && (r.pos == s.pos && (r.block == s.block && (decide (r.val = s.val) && r.images == s.images)))
theorem recB_iff (r s : Rec) : recB r s = true ↔ r = s := by rw [rec_eq]; simp [recB]
theorem recB_same (r : Rec) : recB r r = true := (recB_iff r r).2 rfl
theorem recB_not (r s : Rec) (h : r ≠ s) : recB r s = false := by
  cases hb : recB r s with
  | false => rfl
  | true => exact absurd ((recB_iff r s).1 hb) h
section
variable {P : Program} {ops : Array Oper} {rest : List Oper} {o : Oper} {a : Act} {w w' : World} {Q : Exit → Act → World → Prop}
end
theorem alloc31 (w : World) : (Instr.alloc 62 true (.tuple #[])).run Tryz.prog w = .ok (.pointer (some ⟨w.heap.size, 0, none⟩)) (w.alloc (.cells (rcells rec0).toArray 62)) := by
  simp only [Instr.alloc, Sem.run_bind, zv 62 _ zero31, Result.andThen_ok]
  simp [newVar, newRow, Value.cells]
theorem alloc37 (w : World) : (Instr.alloc 87 true (.tuple #[])).run Tryz.prog w = .ok (.pointer (some ⟨w.heap.size, 0, none⟩)) (w.alloc (.cells (rcells rec0).toArray 87)) := by
  simp only [Instr.alloc, Sem.run_bind, zv 87 _ zero37, Result.andThen_ok]
  simp [newVar, newRow, Value.cells]
theorem alloc24 (w : World) : (Instr.alloc 49 true (.tuple #[])).run Tryz.prog w = .ok (.pointer (some ⟨w.heap.size, 0, none⟩)) (w.alloc (.cells (U8 (zs 32)).toArray 49)) := by
  simp only [Instr.alloc, Sem.run_bind, zv 49 _ zero24, Result.andThen_ok]
  simp [newVar, newRow, Value.cells]
theorem RAt.store {t : TypeId} (ht : (Tryz.prog.info? t).map (·.size) = some 36) {w : World} {g : Nat} {r s : Rec} (h : RAt t w g r) (hr : r.val.length = 32) (hs : s.val.length = 32) :
    (Instr.storeAt t (.pointer (some ⟨g, 0, none⟩)) (.agg (rcells s).toArray)).run Tryz.prog w = .ok () (w.setRow g (rcells s).toArray) := by
  simp only [Instr.storeAt, Instr.sureAddr, Sem.run_bind, Sem.run_pure, Result.andThen_ok, run_storeVar_row w g t t (rcells r).toArray (rcells s).toArray h (by rw [ht, List.size_toArray, rcells_len s hs]) (by rw [List.size_toArray, List.size_toArray, rcells_len s hs, rcells_len r hr]) (rcells_all s)]
theorem RAt.stored {t : TypeId} {w : World} {g : Nat} {r : Rec} (h : RAt t w g r) (s : Rec) : RAt t (w.setRow g (rcells s).toArray) g s := setRow_heap w g _ _ t (0, 0) h
theorem RAt.other {t : TypeId} {w : World} {g k : Nat} {r : Rec} (h : RAt t w g r) (cs : Array Value) (hk : g ≠ k) : RAt t (w.setRow k cs) g r := (setRow_other w k g cs hk).trans h
theorem store_new {t : TypeId} (ht : (Tryz.prog.info? t).map (·.size) = some 36) (w : World) (s : Rec) (hs : s.val.length = 32) :
    (Instr.storeAt t (.pointer (some ⟨w.heap.size, 0, none⟩)) (.agg (rcells s).toArray)).run Tryz.prog (w.alloc (.cells (rcells rec0).toArray t)) = .ok () (w.alloc (.cells (rcells s).toArray t)) := by
  rw [RAt.store ht (RAt.new t w rec0) rec0_len hs, setRow_alloc]
theorem flds31 : Tryz.prog.underlying 62 = some (.struct (Tryz.prog.fieldsOf 62)) := by kernel_rfl
theorem flds37 : Tryz.prog.underlying 87 = some (.struct (Tryz.prog.fieldsOf 87)) := by kernel_rfl
theorem held31 : Tryz.prog.stoodInHeld 62 = false := by kernel_rfl
theorem held37 : Tryz.prog.stoodInHeld 87 = false := by kernel_rfl
def fl5 : List (Bool × TypeId × Nat) := [(true, 3, 0), (true, 24, 1), (true, 3, 2), (true, 49, 3), (true, 3, 35)]
theorem fl31 : fl Tryz.prog 62 = fl5 := by kernel_rfl
theorem fl37 : fl Tryz.prog 87 = fl5 := by kernel_rfl
theorem part29 (w : World) (cs : List Value) (o : Nat) (v : Int) (h : cs[o]? = some (.int .u64 v)) : (part 24 cs.toArray o).run Tryz.prog w = .ok (.int .u64 v) w := by
  simp [part, isAgg, run_underlying Tryz.underlying24, h]
theorem sizeOf24 (w : World) : (sizeOf 49).run Tryz.prog w = .ok 32 w := by
  cases hi : Tryz.prog.info? 49 with
  | none => have := size24; simp [hi] at this
  | some i =>
    have h := size24
    simp only [hi, Option.map_some, Option.some.injEq] at h
    simp [sizeOf, typeInfo, hi, h]
theorem part24 (w : World) (r : Rec) (h : r.val.length = 32) : (part 49 (rcells r).toArray 3).run Tryz.prog w = .ok (.agg (U8 r.val).toArray) w := by
  have e : (rcells r).toArray.extract 3 35 = (U8 r.val).toArray := by
    apply Array.ext_getElem?
    intro k
    by_cases hk : k < 32
    · rw [Array.getElem?_extract]
      simp only [List.size_toArray, rcells_len r h, List.getElem?_toArray]
      rw [if_pos (by omega), rcells_val r k (by omega)]
      simp [List.getElem?_eq_getElem (show k < r.val.length by omega)]
    · rw [Array.getElem?_eq_none (by simp [rcells_len r h]; omega), Array.getElem?_eq_none (by simp [h]; omega)]
  have hagg : (isAgg 49).run Tryz.prog w = .ok true w := by
    unfold isAgg
    rw [Sem.run_bind, run_underlying Tryz.underlying49 w]
    rfl
  simp only [part, Sem.run_bind, hagg, Result.andThen_ok, if_true, sizeOf24, Sem.run_pure]
  rw [e]
theorem equal5 (w : World) (d : Nat) (r s : Rec) (hr : r.val.length = 32) (hs : s.val.length = 32) : (eqParts (d + 2) (rcells r).toArray (rcells s).toArray fl5).run Tryz.prog w = .ok (recB r s) w := by
  unfold fl5 recB
  rw [eqParts_cons w _ _ _ 3 0 _ (part3 w (rcells r) 0 r.kind rfl) (part3 w (rcells s) 0 s.kind rfl) (run_equalIn_int w (d + 1) 3 .i64 .i64 _ _ Tryz.underlying3),
    eqParts_cons w _ _ _ 24 1 _ (part29 w (rcells r) 1 r.pos rfl) (part29 w (rcells s) 1 s.pos rfl) (run_equalIn_int w (d + 1) 24 .u64 .u64 _ _ Tryz.underlying24),
    eqParts_cons w _ _ _ 3 2 _ (part3 w (rcells r) 2 r.block rfl) (part3 w (rcells s) 2 s.block rfl) (run_equalIn_int w (d + 1) 3 .i64 .i64 _ _ Tryz.underlying3),
    eqParts_cons w _ _ _ 49 3 _ (part24 w r hr) (part24 w s hs) (equal24 w d r.val s.val hr hs),
    eqParts_cons w _ _ _ 3 35 _ (part3 w (rcells r) 35 r.images (rcells_35 r hr)) (part3 w (rcells s) 35 s.images (rcells_35 s hs)) (run_equalIn_int w (d + 1) 3 .i64 .i64 _ _ Tryz.underlying3)]
  have e0 : (eqParts (d + 2) (rcells r).toArray (rcells s).toArray []).run Tryz.prog w = .ok true w := by rw [eqParts]; exact Sem.run_pure ..
  rw [e0]
  cases (r.kind == s.kind) <;> cases (r.pos == s.pos) <;> cases (r.block == s.block) <;> cases (decide (r.val = s.val)) <;> cases (r.images == s.images) <;> simp
theorem eql31 (w : World) (r s : Rec) (hr : r.val.length = 32) (hs : s.val.length = 32) : (binOp .eql 62 (.agg (rcells r).toArray) (.agg (rcells s).toArray)).run Tryz.prog w = .ok (.bool (recB r s)) w := by
  rw [run_eql_struct, run_equalIn_struct w 9999 62 _ _ flds31 held31, eqParts_of, show (Tryz.prog.fieldsOf 62).toList.map (fun f => (decide (f.name ≠ "_"), f.type, f.offset)) = fl5 from fl31, equal5 w 9997 r s hr hs]
  rfl
theorem neq31 (w : World) (r s : Rec) (hr : r.val.length = 32) (hs : s.val.length = 32) : (binOp .neq 62 (.agg (rcells r).toArray) (.agg (rcells s).toArray)).run Tryz.prog w = .ok (.bool (!recB r s)) w := by
  rw [run_neq_struct, run_equalIn_struct w 9999 62 _ _ flds31 held31, eqParts_of, show (Tryz.prog.fieldsOf 62).toList.map (fun f => (decide (f.name ≠ "_"), f.type, f.offset)) = fl5 from fl31, equal5 w 9997 r s hr hs]
  rfl
theorem eql37 (w : World) (r s : Rec) (hr : r.val.length = 32) (hs : s.val.length = 32) : (binOp .eql 87 (.agg (rcells r).toArray) (.agg (rcells s).toArray)).run Tryz.prog w = .ok (.bool (recB r s)) w := by
  rw [run_eql_struct, run_equalIn_struct w 9999 87 _ _ flds37 held37, eqParts_of, show (Tryz.prog.fieldsOf 87).toList.map (fun f => (decide (f.name ≠ "_"), f.type, f.offset)) = fl5 from fl37, equal5 w 9997 r s hr hs]
  rfl
theorem neq37 (w : World) (r s : Rec) (hr : r.val.length = 32) (hs : s.val.length = 32) : (binOp .neq 87 (.agg (rcells r).toArray) (.agg (rcells s).toArray)).run Tryz.prog w = .ok (.bool (!recB r s)) w := by
  rw [run_neq_struct, run_equalIn_struct w 9999 87 _ _ flds37 held37, eqParts_of, show (Tryz.prog.fieldsOf 87).toList.map (fun f => (decide (f.name ≠ "_"), f.type, f.offset)) = fl5 from fl37, equal5 w 9997 r s hr hs]
  rfl
/-- what a call hands back: a record and a number -/
theorem results_rec {fn : Func} {p u : Tmp} {ty : TypeId} (h : fn.results = #[.cell p ty, .tmp u]) (tmps : Array Value) (w : World) (g : Nat) (t : TypeId) (r : Rec) (d : TypeDesc)
    (hp : tmps.getD p undef = .pointer (some ⟨g, 0, none⟩)) (hg : RAt t w g r) (hv : r.val.length = 32) (hu : Tryz.prog.underlying ty = some d) (hd : d.isRow = true) (hi : (Tryz.prog.info? ty).map (·.size) = some 36) :
    (results fn tmps).run Tryz.prog w = .ok (.tuple #[.agg (rcells r).toArray, tmps.getD u undef]) w := by
  rw [results_cell_tmp h, hp]
  simp only [asAddr, Sem.run_pure, Result.andThen_ok, run_loadVar_mid w g 0 ty _ d hg.range hu hd (by rw [hi, rcells_len r hv])]
theorem results_cell1 {fn : Func} {p : Tmp} {ty : TypeId} (h : fn.results = #[.cell p ty]) (tmps : Array Value) (w : World) (g : Nat) (t : TypeId) (r : Rec) (d : TypeDesc)
    (hp : tmps.getD p undef = .pointer (some ⟨g, 0, none⟩)) (hg : RAt t w g r) (hv : r.val.length = 32) (hu : Tryz.prog.underlying ty = some d) (hd : d.isRow = true) (hi : (Tryz.prog.info? ty).map (·.size) = some 36) :
    (results fn tmps).run Tryz.prog w = .ok (.agg (rcells r).toArray) w := by
  have hp' : tmps[p]?.getD undef = .pointer (some ⟨g, 0, none⟩) := by simpa using hp
  simp [results, h, hp', asAddr, run_loadVar_mid w g 0 ty _ d hg.range hu hd (by rw [hi, rcells_len r hv])]
end Go.Proofs.YtmcpjokbkkfgfaaGreatDoor.R

/-
  Layer 6, the program's functions, first part: mayBeImage, mayBeCommit, Check, number, put.
-/
namespace Go.Proofs.YtmcpjokbkkfgfaaGreatDoor.R
open Go.RowKit
set_option maxHeartbeats 400000 in
set_option maxRecDepth 100000 in
theorem image_any (r : Rec) (hv : r.val.length = 32) (w : World) :
    Calls Tryz.prog 104 #[.agg (rcells r).toArray] w fun e w' => e = .returned (.bool (imageB r)) ∧ Below w.heap.size w w' := by
  have hA := RAt.new 62 w r
  have c0 := hA.c0
  have c2 := hA.c2
  have c4 := hA.c35 hv
  have HB : Hid (Below w.heap.size w (w.alloc (.cells (rcells r).toArray 62))) := below_alloc w _
  clear hA hv
  go_enter Tryz.func104, Tryz.ntmps104
  go_wp2
  all_goals go_ret
  all_goals (refine ⟨?_, HB.out⟩)
  all_goals (clear c0 c2 c4; unfold imageB; simp_all <;> (intros; omega))
set_option maxHeartbeats 1000000 in
set_option maxRecDepth 100000 in
theorem commit_any (r : Rec) (hv : r.val.length = 32) (w : World) :
    Calls Tryz.prog 105 #[.agg (rcells r).toArray] w fun e w' => e = .returned (.bool (commitB r)) ∧ Below w.heap.size w w' := by
  have hA := RAt.new 62 w r
  have c0 := hA.c0
  have c2 := hA.c2
  have c4 := hA.c35 hv
  have L3 : Hid (_) := hA.load24 hv
  have B3 : Hid (_) := build24 (w.alloc (.cells (rcells r).toArray 62))
  have Q3 : Hid (_) := eql24 (w.alloc (.cells (rcells r).toArray 62)) r.val (zs 32) hv (zs_len 32)
  have HB : Hid (Below w.heap.size w (w.alloc (.cells (rcells r).toArray 62))) := below_alloc w _
  clear hA hv
  go_enter Tryz.func105, Tryz.ntmps105
  go_wp2_with (first | (refine wpList_load_is (by rfl) 49 rfl rfl L3.out ?_) | (refine wpList_build_is (by rfl) 49 rfl rfl B3.out ?_) | (refine wpList_eql_is (by rfl) 49 rfl rfl rfl eqg24 Q3.out ?_))
  all_goals go_ret
  all_goals (refine ⟨?_, HB.out⟩)
  all_goals (clear c0 c2 c4 L3 B3 Q3; unfold commitB; simp_all <;> (intros; omega))
theorem chk_image (r : Rec) (hp : r.pos ≤ 4611686018427387904) (h : imageB r = true) : chk r = 0 := by
  unfold chk may; rw [h, decide_eq_true hp]; rfl
theorem chk_commit (r : Rec) (hp : r.pos ≤ 4611686018427387904) (h : commitB r = true) : chk r = 0 := by
  unfold chk may; rw [h, decide_eq_true hp]; simp
theorem chk_none (r : Rec) (h : imageB r = false) (h2 : commitB r = false) : chk r = 60 := by
  unfold chk may; rw [h, h2]; simp
theorem chk_pos (r : Rec) (hp : ¬ r.pos ≤ 4611686018427387904) : chk r = 60 := by
  unfold chk may; rw [decide_eq_false hp]; rfl
set_option maxHeartbeats 1000000 in
set_option maxRecDepth 100000 in
theorem check_any (r : Rec) (hv : r.val.length = 32) (w : World) :
    Calls Tryz.prog 90 #[.agg (rcells r).toArray] w fun e w' => e = .returned (.int .i64 (chk r)) ∧ Below w.heap.size w w' := by
  have hA := RAt.new 62 w r
  have c1 := hA.c1
  have L1 : Hid (_) := hA.load31 hv
  have HA : Hid (RAt 62 (w.alloc (.cells (rcells r).toArray 62)) w.heap.size r) := hA
  have HB : Hid (Below w.heap.size w (w.alloc (.cells (rcells r).toArray 62))) := below_alloc w _
  have HV : Hid (r.val.length = 32) := hv
  clear hA hv
  go_enter Tryz.func90, Tryz.ntmps90
  by_cases hp : r.pos ≤ 4611686018427387904
  · have hp' : ¬ 4611686018427387904 < r.pos := by omega
    go_wp2_with (refine wpList_load_is (by rfl) 62 rfl rfl L1.out ?_)
    refine (image_any r HV.out _).mono ?_
    rintro e w1 ⟨rfl, b1⟩
    have HA1 : Hid (RAt 62 w1 w.heap.size r) := HA.out.later b1
    have HB1 : Hid (Below w.heap.size w w1) := below_then HB.out b1
    have L2 : Hid (_) := HA1.out.load31 HV.out
    clear c1 L1 b1 HA HB
    cases hi : imageB r with
    | true =>
      have HC : Hid (chk r = 0) := chk_image r hp hi
      go_wp2_with fail
      go_ret
      exact ⟨by rw [HC.out]; rfl, HB1.out⟩
    | false =>
      go_wp2_with (refine wpList_load_is (by rfl) 62 rfl rfl L2.out ?_)
      refine (commit_any r HV.out _).mono ?_
      rintro e w2 ⟨rfl, b2⟩
      have HB2 : Hid (Below w.heap.size w w2) := below_then HB1.out b2
      clear b2 L2
      cases hc : commitB r with
      | true =>
        have HC : Hid (chk r = 0) := chk_commit r hp hc
        go_wp2_with fail
        go_ret
        exact ⟨by rw [HC.out]; rfl, HB2.out⟩
      | false =>
        have HC : Hid (chk r = 60) := chk_none r hi hc
        go_wp2_with fail
        go_ret
        exact ⟨by rw [HC.out]; rfl, HB2.out⟩
  · have HC : Hid (chk r = 60) := chk_pos r hp
    have hp' : 4611686018427387904 < r.pos := by omega
    go_wp2_with fail
    go_ret
    exact ⟨by rw [HC.out]; rfl, HB.out⟩
set_option maxHeartbeats 400000 in
set_option maxRecDepth 100000 in
theorem number_rec (r : Rec) (hv : r.val.length = 32) (hm : may r = true) (w : World) :
    Calls Tryz.prog 92 #[.agg (rcells r).toArray] w fun e w' => e = .returned (.int .u64 (numS r)) ∧ Below w.heap.size w w' := by
  have hA := RAt.new 62 w r
  have c0 := hA.c0
  have c2 := hA.c2
  have c4 := hA.c35 hv
  have HB : Hid (Below w.heap.size w (w.alloc (.cells (rcells r).toArray 62))) := below_alloc w _
  have hn := numS_bd r hm
  clear hA hv
  by_cases hk : r.kind = 1
  · have e : numS r = r.block := by unfold numS; rw [if_pos hk]
    rw [e] at hn ⊢
    obtain ⟨h0, h1⟩ := hn
    clear hm e
    go_enter Tryz.func92, Tryz.ntmps92
    go_wp2
    go_ret
    exact ⟨rfl, HB.out⟩
  · have e : numS r = r.images := by unfold numS; rw [if_neg hk]
    rw [e] at hn ⊢
    obtain ⟨h0, h1⟩ := hn
    clear hm e
    go_enter Tryz.func92, Tryz.ntmps92
    go_wp2
    go_ret
    exact ⟨rfl, HB.out⟩
set_option maxHeartbeats 400000 in
set_option maxRecDepth 100000 in
theorem rput_any (n : Int) (k : Nat) (w : World) (hn0 : 0 ≤ n) (hk : 1 ≤ k ∧ k ≤ 8) (hn : n / 256 ^ k = 0) :
    Calls Tryz.prog 91 #[.int .u64 n, .int .i64 k] w fun e w' => ∃ p c, e = .returned (.slice p k c) ∧ Made w w' p k c (digits k n) := by
  go_enter Tryz.func91, Tryz.ntmps91
  go_wp2_with fail
  refine (put_ok n k w hn0 hk hn).mono ?_
  rintro e w1 ⟨v, rfl, ho, hb⟩
  obtain ⟨p, c, rfl, hm⟩ := made_of ho (digits_bytes k n) hb
  clear ho hb hn
  go_wp2_with fail
  go_ret
  exact ⟨p, c, rfl, hm⟩
end Go.Proofs.YtmcpjokbkkfgfaaGreatDoor.R

/-
  Layer 6, the program's functions, second part: Encode.
-/
namespace Go.Proofs.YtmcpjokbkkfgfaaGreatDoor.R
open Go.RowKit
theorem RAt.vin {t : TypeId} {w : World} {g : Nat} {r : Rec} (h : RAt t w g r) (hw : r.Wf) : BIn w (some ⟨g, 3, none⟩) 32 r.val := by
  refine ⟨hw.len, hw.byte, fun _ => ⟨g, 3, rfl, fun i hi => ?_⟩⟩
  have hi' : i < r.val.length := by rw [hw.len]; exact hi
  rw [h.cell (3 + i), rcells_val r i hi']
  simp [List.getD, List.getElem?_eq_getElem hi']
/-- the parts are joined -/
theorem join_new {w : World} {vs : List Value} {ls : List (List Int)} (h : SIns w vs ls) (n : Nat) (hn : vs.length = n) (hb : ls.flatten.length ≤ 100000) (hn2 : n ≤ 100) :
    Calls Tryz.prog 78 #[.slice (some ⟨w.heap.size, 0, none⟩) n n] (w.alloc (.cells vs.toArray 51)) fun e w' => ∃ p c, e = .returned (.slice p ls.flatten.length c) ∧ Made w w' p ls.flatten.length c ls.flatten := by
  have hB : ∀ l ∈ ls, Bytes l := by
    intro l hl
    obtain ⟨i, hi, rfl⟩ := List.getElem_of_mem hl
    obtain ⟨_, _, _, _, h1, _⟩ := h.at i (by rw [← h.len]; exact hi) hi
    exact h1.byte
  refine (join_any _ n n vs ls _ (pin_new h n hn) (by omega) (by omega)).mono ?_
  rintro e w' ⟨v, rfl, ho, hb2⟩
  exact (made_of (own_mono ho (by simp)) (Bytes.flatten hB) (below_of_alloc hb2)).elim fun p ⟨c, e, m⟩ => ⟨p, c, by rw [e], m⟩
theorem dig1 (k : Int) (h0 : 0 ≤ k) (h1 : k < 256) : digits 1 k = [k] := by
  simp only [digits]; rw [Int.emod_eq_of_lt h0 h1]
theorem div_zero (n m : Int) (h0 : 0 ≤ n) (h1 : n < m) : n / m = 0 := Int.ediv_eq_zero_of_lt h0 h1
theorem div1 (n : Int) (h0 : 0 ≤ n) (h1 : n < 256) : n / 256 ^ 1 = 0 := div_zero _ _ h0 (by rw [show (256 : Int) ^ 1 = 256 by decide]; omega)
theorem div8 (n : Int) (h0 : 0 ≤ n) (h1 : n ≤ 18446744073709551615) : n / 256 ^ 8 = 0 := div_zero _ _ h0 (by rw [show (256 : Int) ^ 8 = 18446744073709551616 by decide]; omega)
theorem div4 (n : Int) (h0 : 0 ≤ n) (h1 : n < 4294967296) : n / 256 ^ 4 = 0 := div_zero _ _ h0 (by rw [show (256 : Int) ^ 4 = 4294967296 by decide]; omega)
/-- a record's bytes, of one that may be -/
def encT (r : Rec) : List Int := if may r = true then encS r else []
theorem encT_yes (r : Rec) (h : may r = true) : encT r = encS r := if_pos h
theorem encT_no (r : Rec) (h : ¬ may r = true) : encT r = [] := if_neg h
theorem chk_yes (r : Rec) (h : may r = true) : chk r = 0 := by unfold chk; rw [if_pos h]
theorem chk_no (r : Rec) (h : ¬ may r = true) : chk r = 60 := by unfold chk; rw [if_neg h]
theorem chk_or (r : Rec) : chk r = 0 ∨ chk r = 60 := by unfold chk; split <;> simp
set_option maxHeartbeats 400000 in
set_option maxRecDepth 100000 in
theorem encode_bad (r : Rec) (hv : r.val.length = 32) (hm : ¬ may r = true) (w : World) :
    Calls Tryz.prog 66 #[.agg (rcells r).toArray] w fun e w' => e = .returned (.tuple #[.slice none 0 0, .int .i64 60]) ∧ Below w.heap.size w w' := by
  have L1 : Hid (_) := (RAt.new 62 w r).load31 hv
  have hc := chk_no r hm
  go_enter Tryz.func66, Tryz.ntmps66
  go_wp2_with (refine wpList_load_is (by rfl) 62 rfl rfl L1.out ?_)
  refine (check_any r hv _).mono ?_
  rintro e w1 ⟨rfl, b1⟩
  rw [hc]
  have HB : Hid (Below w.heap.size w w1) := below_of_alloc b1
  clear b1 L1 hm hc
  go_wp2_with fail
  go_ret2
  exact ⟨rfl, HB.out⟩
set_option maxHeartbeats 4000000 in
set_option maxRecDepth 100000 in
theorem encode_good (r : Rec) (hw : r.Wf) (hm : may r = true) (w : World) (ht : Half w) :
    Calls Tryz.prog 66 #[.agg (rcells r).toArray] w fun e w' => ∃ p c, e = .returned (.tuple #[.slice p 64 c, .int .i64 0]) ∧ Made w w' p 64 c (encS r) := by
  have HW : Hid (r.Wf) := hw
  have HM : Hid (may r = true) := hm
  have L1 : Hid (_) := (RAt.new 62 w r).load31 hw.len
  have hc := chk_yes r hm
  have HT : Hid (Half w) := ht
  have HN : Hid (0 ≤ numS r ∧ numS r < 64) := numS_bd r hm
  have HK : Hid (0 ≤ r.kind ∧ r.kind < 256) := by have := may_kind hm; exact ⟨by omega, by omega⟩
  have HP : Hid (0 ≤ r.pos ∧ r.pos ≤ 18446744073709551615) := ⟨hw.p0, hw.p1⟩
  go_enter Tryz.func66, Tryz.ntmps66
  go_wp2_with (refine wpList_load_is (by rfl) 62 rfl rfl L1.out ?_)
  refine (check_any r hw.len _).mono ?_
  rintro e w1 ⟨rfl, b1⟩
  rw [hc]
  have HB1 : Hid (Below w.heap.size w w1) := below_of_alloc b1
  have HA1 : Hid (RAt 62 w1 w.heap.size r) := (RAt.new 62 w r).later b1
  clear b1 L1 hm hc hw ht
  go_wp2_with fail
  have k0 := HK.out.1
  have k1 := HK.out.2
  have ks : IntKind.u64.wrap r.kind = r.kind := by rw [IntKind.wrap_u64]; omega
  refine wp_region_noPanic ?_
  refine wp_region_held_drew (S := fun w' => RAt 62 w' w.heap.size r) (by kernel_rfl) HA1.out.drew (fun hHeld => ?_)
  refine wpAnyH_take (i := 1) (v := ?v1) (by simp; rfl) (by kernel_rfl) (by kernel_rfl) (by kernel_rfl) (fun _ _ _ h => h) (Or.inl ⟨by rfl, ?y1⟩) hHeld ?r1
  case y1 => intro w hSw; clear hSw; go_simp; with_reducible rfl
  simp only [Act.put, List.setIfInBounds_toArray, List.set_cons_zero, List.set_cons_succ]
  refine wpAnyH_take (i := 2) (v := ?v2) (by simp; rfl) (by kernel_rfl) (by kernel_rfl) (by kernel_rfl) (fun _ _ _ h => h) (Or.inl ⟨by rfl, ?y2⟩) hHeld ?r2
  case y2 => intro w hSw; have z := RAt.c0 hSw; clear hSw; go_simp; with_reducible rfl
  simp only [Act.put, List.setIfInBounds_toArray, List.set_cons_zero, List.set_cons_succ]
  refine wpAnyH_take (i := 3) (v := ?v3) (by simp; rfl) (by kernel_rfl) (by kernel_rfl) (by kernel_rfl) (fun _ _ _ h => h) (Or.inl ⟨by rfl, ?y3⟩) hHeld ?r3
  case y3 => intro w hSw; clear hSw; go_simp; with_reducible rfl
  simp only [Act.put, List.setIfInBounds_toArray, List.set_cons_zero, List.set_cons_succ]
  refine wpAnyH_take (i := 6) (v := ?v6) (by simp; rfl) (by kernel_rfl) (by kernel_rfl) (by kernel_rfl) (fun _ _ _ h => h) (Or.inl ⟨by rfl, ?y6⟩) hHeld ?r6
  case y6 => intro w hSw; clear hSw; go_simp; with_reducible rfl
  simp only [Act.put, List.setIfInBounds_toArray, List.set_cons_zero, List.set_cons_succ]
  refine wpAnyH_take (i := 7) (v := ?v7) (by simp; rfl) (by kernel_rfl) (by kernel_rfl) (by kernel_rfl) (fun _ _ _ h => h) (Or.inl ⟨by rfl, ?y7⟩) hHeld ?r7
  case y7 => intro w hSw; have z := RAt.c1 hSw; clear hSw; go_simp; with_reducible rfl
  simp only [Act.put, List.setIfInBounds_toArray, List.set_cons_zero, List.set_cons_succ]
  refine wpAnyH_take (i := 9) (v := _) (by simp; rfl) (by kernel_rfl) (by kernel_rfl) (by kernel_rfl) (fun _ _ _ h => h) (yieldsIf_load_mid (by rfl) 62 (.tmp 1) rfl w.heap.size 0 rfl (rcells r) _ (fun _ h => RAt.range h) Tryz.underlying62 rfl (by rw [size31, rcells_len r HW.out.len])) hHeld ?_
  simp only [Act.put, List.setIfInBounds_toArray, List.set_cons_zero, List.set_cons_succ]
  refine wpAnyH_take (i := 12) (v := ?v12) (by simp; rfl) (by kernel_rfl) (by kernel_rfl) (by kernel_rfl) (fun _ _ _ h => h) (Or.inl ⟨by rfl, ?y12⟩) hHeld ?r12
  case y12 => intro w hSw; clear hSw; go_simp; with_reducible rfl
  simp only [Act.put, List.setIfInBounds_toArray, List.set_cons_zero, List.set_cons_succ]
  refine wpAnyH_take (i := 13) (v := ?v13) (by simp; rfl) (by kernel_rfl) (by kernel_rfl) (by kernel_rfl) (fun _ _ _ h => h) (Or.inl ⟨by rfl, ?y13⟩) hHeld ?r13
  case y13 => intro w hSw; clear hSw; go_simp; with_reducible rfl
  simp only [Act.put, List.setIfInBounds_toArray, List.set_cons_zero, List.set_cons_succ]
  refine wpAnyH_ready (rs := [0]) (by kernel_rfl) (by simp) ?_
  refine AllReadyH.cons (by simp; rfl) (fun Kc hKc => ?_) AllReadyH.nil
  go_simp
  refine (rput_any 87 1 w1.drew (by omega) (by omega) (by decide)).mono ?_
  rintro e w2 ⟨p2, c2, rfl, m2⟩
  have HB2 : Hid (Below w1.heap.size w1 w2) := below_undrew m2.below
  have HS2 : Hid (SIn w2 (.slice p2 1 c2) [87]) := m2.sin
  have HA2 : Hid (RAt 62 w2 w.heap.size r) := HA1.out.later HB2.out
  clear m2
  refine hKc.out _ _ HA2.out (fun hHeld => ?_)
  clear hKc Kc
  refine wpAnyH_ready (rs := [4]) (by kernel_rfl) (by simp) ?_
  refine AllReadyH.cons (by simp; rfl) (fun Kc hKc => ?_) AllReadyH.nil
  go_simp
  refine (rput_any r.kind 1 w2 k0 (by omega) (div1 _ k0 k1)).mono ?_
  rintro e w3 ⟨p3, c3, rfl, m3⟩
  have HB3 : Hid (Below w2.heap.size w2 w3) := m3.below
  have HS3 : Hid (SIn w3 (.slice p3 1 c3) [r.kind]) := by have := m3.sin; rw [dig1 r.kind k0 k1] at this; exact this
  have HA3 : Hid (RAt 62 w3 w.heap.size r) := HA2.out.later HB3.out
  clear m3
  refine hKc.out _ _ HA3.out (fun hHeld => ?_)
  clear hKc Kc
  refine wpAnyH_ready (rs := [5]) (by kernel_rfl) (by simp) ?_
  refine AllReadyH.cons (by simp; rfl) (fun Kc hKc => ?_) AllReadyH.nil
  go_simp
  refine (rput_any 0 2 w3 (by omega) (by omega) (by decide)).mono ?_
  rintro e w4 ⟨p4, c4, rfl, m4⟩
  have HB4 : Hid (Below w3.heap.size w3 w4) := m4.below
  have HS4 : Hid (SIn w4 (.slice p4 2 c4) [0, 0]) := m4.sin
  have HA4 : Hid (RAt 62 w4 w.heap.size r) := HA3.out.later HB4.out
  clear m4
  refine hKc.out _ _ HA4.out (fun hHeld => ?_)
  clear hKc Kc
  refine wpAnyH_ready (rs := [8]) (by kernel_rfl) (by simp) ?_
  refine AllReadyH.cons (by simp; rfl) (fun Kc hKc => ?_) AllReadyH.nil
  go_simp
  refine (rput_any r.pos 8 w4 HP.out.1 (by omega) (div8 _ HP.out.1 HP.out.2)).mono ?_
  rintro e w5 ⟨p5, c5, rfl, m5⟩
  have HB5 : Hid (Below w4.heap.size w4 w5) := m5.below
  have HS5 : Hid (SIn w5 (.slice p5 8 c5) (digits 8 r.pos)) := m5.sin
  have HA5 : Hid (RAt 62 w5 w.heap.size r) := HA4.out.later HB5.out
  clear m5
  refine hKc.out _ _ HA5.out (fun hHeld => ?_)
  clear hKc Kc
  refine wpAnyH_ready (rs := [10]) (by kernel_rfl) (by simp) ?_
  refine AllReadyH.cons (by simp; rfl) (fun Kc hKc => ?_) AllReadyH.nil
  go_simp
  refine (number_rec r HW.out.len HM.out w5).mono ?_
  rintro e w6 ⟨rfl, b6⟩
  have HB6 : Hid (Below w5.heap.size w5 w6) := b6
  have HA6 : Hid (RAt 62 w6 w.heap.size r) := HA5.out.later HB6.out
  clear b6
  refine hKc.out _ _ HA6.out (fun hHeld => ?_)
  clear hKc Kc
  refine wpAnyH_ready (rs := [11]) (by kernel_rfl) (by simp) ?_
  refine AllReadyH.cons (by simp; rfl) (fun Kc hKc => ?_) AllReadyH.nil
  go_simp
  refine (rput_any (numS r) 4 w6 HN.out.1 (by omega) (div4 _ HN.out.1 (by have := HN.out.2; omega))).mono ?_
  rintro e w7 ⟨p7, c7, rfl, m7⟩
  have HB7 : Hid (Below w6.heap.size w6 w7) := m7.below
  have HS7 : Hid (SIn w7 (.slice p7 4 c7) (digits 4 (numS r))) := m7.sin
  have HA7 : Hid (RAt 62 w7 w.heap.size r) := HA6.out.later HB7.out
  clear m7
  refine hKc.out _ _ HA7.out (fun hHeld => ?_)
  clear hKc Kc
  have B67 := HB7.out
  have B57 := below_then HB6.out B67
  have B47 := below_then HB5.out B57
  have B37 := below_then HB4.out B47
  have B27 := below_then HB3.out B37
  have B17 := below_then HB2.out B27
  have HSS : Hid (SIns w7 [.slice p2 1 c2, .slice p3 1 c3, .slice p4 2 c4, .slice p5 8 c5, .slice p7 4 c7, .slice (some ⟨w.heap.size, 3, none⟩) 32 32] [[87], [r.kind], [0, 0], digits 8 r.pos, digits 4 (numS r), r.val]) :=
    ⟨HS2.out.later B27, HS3.out.later B37, HS4.out.later B47, HS5.out.later B57, HS7.out, ⟨_, _, _, rfl, HA7.out.vin HW.out, Nat.le_refl _, fun e => by cases e⟩, trivial⟩
  have HF : Hid ([[87], [r.kind], [0, 0], digits 8 r.pos, digits 4 (numS r), r.val].flatten = head r) := by show _ = _; simp [head]
  have HFL : Hid ((head r).length = 48) := head_len r HW.out.len
  have HBW : Hid (Below w.heap.size w w7) := below_then HB1.out B17
  clear B67 B57 B47 B37 B27 B17 HB2 HB3 HB4 HB5 HB6 HB7 HS2 HS3 HS4 HS5 HS7 HA2 HA3 HA4 HA5 HA6 HB1 HA1
  refine wpAnyH_ready (rs := [14]) (by kernel_rfl) (by simp) ?_
  refine AllReadyH.cons (by simp; rfl) (fun Kc hKc => ?_) AllReadyH.nil
  go_simp
  refine hKc.out _ _ (HA7.out.later (below_alloc w7 _)) (fun hHeld => ?_)
  clear hKc Kc
  refine wpAnyH_ready (rs := [15]) (by kernel_rfl) (by simp) ?_
  refine AllReadyH.cons (by simp; rfl) (fun Kc hKc => ?_) AllReadyH.nil
  go_simp
  refine (join_new HSS.out 6 rfl (by rw [HF.out, HFL.out]; omega) (by omega)).mono ?_
  rintro e w8 ⟨p8, c8, rfl, m8⟩
  rw [HF.out, HFL.out] at m8
  rw [HF.out, HFL.out]
  have HA8 : Hid (RAt 62 w8 w.heap.size r) := HA7.out.later m8.below
  have HB8 : Hid (Below w.heap.size w w8) := below_then HBW.out m8.below
  have HR8 : Hid (BIn w8 p8 48 (head r)) := m8.read
  clear m8 HSS HF HFL HBW HA7
  refine hKc.out _ _ HA8.out (fun hHeld => ?_)
  clear hKc Kc
  refine wpAnyH_take (i := 16) (v := ?v16) (by simp; rfl) (by kernel_rfl) (by kernel_rfl) (by kernel_rfl) (fun _ _ _ h => h) (Or.inl ⟨by rfl, ?y16⟩) hHeld ?r16
  case y16 => intro w hSw; clear hSw; go_simp; with_reducible rfl
  simp only [Act.put, List.setIfInBounds_toArray, List.set_cons_zero, List.set_cons_succ]
  refine wpAnyH_done (by kernel_rfl) (NoPanic.normal ?_) _
  clear hHeld
  go_wp2_with fail
  refine (pad_ok p8 48 c8 (head r) 60 w8 (by omega) (by omega) HR8.out).mono ?_
  rintro e w9 ⟨v9, rfl, ho9, hb9⟩
  obtain ⟨p9, c9, rfl, m9⟩ := made_of ho9 ((head_bytes r HW.out HM.out).append (zs_bytes 12)) hb9
  have HS9 : Hid (SIn w9 (.slice p9 60 c9) (body r)) := m9.sin
  have HB9 : Hid (Below w.heap.size w w9) := below_then HB8.out hb9
  have HL9 : Hid ((body r).length = 60) := body_len r HW.out.len
  clear ho9 hb9 m9 HR8 HB8 HA8
  go_wp2_with fail
  refine (of_new p9 60 c9 (body r) HS9.out (by rw [HL9.out]; omega) (HT.out.later HB9.out)).mono ?_
  rintro e w10 ⟨rfl, b10⟩
  have HS10 : Hid (SIn w10 (.slice p9 60 c9) (body r)) := HS9.out.later b10
  have HB10 : Hid (Below w.heap.size w w10) := below_then HB9.out b10
  have hcl := crc_lt (body r) (body_bytes r HW.out HM.out)
  have HE : Hid (encS r = [body r, digits 4 ((crc (body r) : Nat) : Int)].flatten) := by show _ = _; simp [encS]
  have HEL : Hid ((encS r).length = 64) := encS_len r HW.out.len
  clear b10 HS9 HB9
  generalize crc (body r) = S at *
  go_wp2_with fail
  refine (rput_any (S : Int) 4 w10 (by omega) (by omega) (div4 _ (by omega) (by omega))).mono ?_
  rintro e w11 ⟨p11, c11, rfl, m11⟩
  have HSS : Hid (SIns w11 [.slice p9 60 c9, .slice p11 4 c11] [body r, digits 4 (S : Int)]) := ⟨HS10.out.later m11.below, m11.sin, trivial⟩
  have HB11 : Hid (Below w.heap.size w w11) := below_then HB10.out m11.below
  clear m11 HS10 HB10
  go_wp2_with fail
  refine (join_new HSS.out 2 rfl (by rw [← HE.out, HEL.out]; omega) (by omega)).mono ?_
  rintro e w12 ⟨p12, c12, rfl, m12⟩
  rw [← HE.out, HEL.out] at m12
  rw [← HE.out, HEL.out]
  have HM12 : Hid (Made w11 w12 p12 64 c12 (encS r)) := m12
  clear m12 HSS
  go_wp2_with fail
  go_ret2
  exact ⟨p12, c12, rfl, own_mono HM12.out.own HB11.out.size, HM12.out.read, HM12.out.le, HM12.out.nil, below_then HB11.out HM12.out.below⟩
/-- Encode, of whatever record: its answers -/
theorem encode_any (r : Rec) (hw : r.Wf) (w : World) (ht : Half w) :
    Calls Tryz.prog 66 #[.agg (rcells r).toArray] w fun e w' => ∃ p n c, e = .returned (.tuple #[.slice p n c, .int .i64 (chk r)]) ∧ n = (encT r).length ∧ (may r = true → n = 64) ∧ Made w w' p n c (encT r) := by
  by_cases hm : may r = true
  · rw [encT_yes r hm, chk_yes r hm]
    refine (encode_good r hw hm w ht).mono ?_
    rintro e w' ⟨p, c, rfl, m⟩
    exact ⟨p, 64, c, rfl, (encS_len r hw.len).symm, fun _ => rfl, m⟩
  · rw [encT_no r hm, chk_no r hm]
    refine (encode_bad r hw.len hm w).mono ?_
    rintro e w' ⟨rfl, b⟩
    exact ⟨none, 0, 0, rfl, rfl, fun h => absurd h hm, World.ownsRow_nil _ _ _ _, BIn.empty, Nat.le_refl _, fun _ => rfl, b⟩
end Go.Proofs.YtmcpjokbkkfgfaaGreatDoor.R
