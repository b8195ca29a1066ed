/-
  Layer 8: how a value lies in memory; what the operations on values do, said once.
-/
import Derived.Test.YtpenddnmmfpdjaaDoorN1
import Derived.Test.YtpenddnmmfpdjaaDoorN3
import Derived.Test.YtpenddnmmfpdjaaDoorN4
namespace Go.Proofs.YtpenddnmmfpdjaaDoor
open Go.RowKit

theorem sizeV : (Tryd.prog.info? 23).map (·.size) = some 32 := by kernel_rfl
theorem sizeW : (Tryd.prog.info? 84).map (·.size) = some 64 := by kernel_rfl
theorem zeroV : (Tryd.prog.info? 23).bind (·.zero) = some (.agg (U8 (zs 32)).toArray) := by kernel_rfl
theorem sizeOf5 (w : World) : (sizeOf 5).run Tryd.prog w = .ok 1 w := by
  cases hi : Tryd.prog.info? 5 with
  | none => have := size5; simp [hi] at this
  | some i =>
    have h := size5
    simp only [hi, Option.map_some, Option.some.injEq] at h
    simp [sizeOf, typeInfo, hi, h]
theorem all_range_eq : ∀ (xs ys : List Int), xs.length = ys.length → ((List.range xs.length).all fun i => xs.getD i 0 == ys.getD i 0) = decide (xs = ys)
  | [], [], _ => rfl
  | x :: xs, y :: ys, h => by
    have ih := all_range_eq xs ys (by simpa using h)
    rw [List.length_cons, List.range_succ_eq_map, List.all_cons, List.all_map]
    simp only [List.getD_cons_zero, Function.comp_def, List.getD_cons_succ, ih]
    rw [Bool.eq_iff_iff]
    simp
  | [], _ :: _, h => by simp at h
  | _ :: _, [], h => by simp at h
theorem equalV (w : World) (d : Nat) (xs ys : List Int) (hx : xs.length = 32) (hy : ys.length = 32) :
    (Op.equalIn (d + 2) 23 (.agg (U8 xs).toArray) (.agg (U8 ys).toArray)).run Tryd.prog w = .ok (decide (xs = ys)) w := by
  rw [← all_range_eq xs ys (hx.trans hy.symm), hx, List.range_eq_range', Op.equalIn]
  simp only [Sem.run_bind, run_underlying Tryd.underlying23, Result.andThen_ok, sizeOf5, Std.Legacy.Range.forIn_eq_forIn_range', Std.Legacy.Range.size, Nat.sub_zero, Nat.add_sub_cancel, Nat.div_one]
  have hl : ∀ i ∈ List.range' 0 32 1, i < 32 := fun i hi => by simpa using (List.mem_range'_1.1 hi).2
  generalize List.range' 0 32 1 = l at hl ⊢
  induction l with
  | nil => simp
  | cons i l ih =>
    have hi : i < 32 := hl i (by simp)
    have px : (part 5 (U8 xs).toArray (i * 1)).run Tryd.prog w = .ok (.int .u8 (xs.getD i 0)) w := by
      simp [part, isAgg, run_underlying Tryd.underlying5, List.getD, List.getElem?_eq_getElem (show i < xs.length by omega)]
    have py : (part 5 (U8 ys).toArray (i * 1)).run Tryd.prog w = .ok (.int .u8 (ys.getD i 0)) w := by
      simp [part, isAgg, run_underlying Tryd.underlying5, List.getD, List.getElem?_eq_getElem (show i < ys.length by omega)]
    have pe : (Op.equalIn (d + 1) 5 (.int .u8 (xs.getD i 0)) (.int .u8 (ys.getD i 0))).run Tryd.prog w = .ok (xs.getD i 0 == ys.getD i 0) w := run_equalIn_int w d 5 .u8 .u8 _ _ Tryd.underlying5
    simp only [List.forIn_cons, Sem.run_bind, px, py, pe, Result.andThen_ok, List.all_cons]
    cases hb : (xs.getD i 0 == ys.getD i 0)
    · simp
    · simp only [Bool.not_true, Bool.false_eq_true, if_false, Sem.run_pure, Result.andThen_ok, Bool.true_and]
      exact ih fun j hj => hl j (by simp [hj])
theorem eqlV (w : World) (xs ys : List Int) (hx : xs.length = 32) (hy : ys.length = 32) :
    (binOp .eql 23 (.agg (U8 xs).toArray) (.agg (U8 ys).toArray)).run Tryd.prog w = .ok (.bool (decide (xs = ys))) w := by
  rw [run_eql_struct, equalV w 9998 xs ys hx hy]
  rfl
theorem neqV (w : World) (xs ys : List Int) (hx : xs.length = 32) (hy : ys.length = 32) :
    (binOp .neq 23 (.agg (U8 xs).toArray) (.agg (U8 ys).toArray)).run Tryd.prog w = .ok (.bool (!decide (xs = ys))) w := by
  rw [run_neq_struct, equalV w 9998 xs ys hx hy]
  rfl
theorem eqgV : Tryd.prog.eqGuardType Tryd.prog.depth 23 = false := by kernel_rfl

theorem equalW (w : World) (d : Nat) (xs ys : List Int) (hx : xs.length = 64) (hy : ys.length = 64) :
    (Op.equalIn (d + 2) 84 (.agg (U8 xs).toArray) (.agg (U8 ys).toArray)).run Tryd.prog w = .ok (decide (xs = ys)) w := by
  rw [← all_range_eq xs ys (hx.trans hy.symm), hx, List.range_eq_range', Op.equalIn]
  simp only [Sem.run_bind, run_underlying Tryd.underlying84, Result.andThen_ok, sizeOf5, Std.Legacy.Range.forIn_eq_forIn_range', Std.Legacy.Range.size, Nat.sub_zero, Nat.add_sub_cancel, Nat.div_one]
  have hl : ∀ i ∈ List.range' 0 64 1, i < 64 := fun i hi => by simpa using (List.mem_range'_1.1 hi).2
  generalize List.range' 0 64 1 = l at hl ⊢
  induction l with
  | nil => simp
  | cons i l ih =>
    have hi : i < 64 := hl i (by simp)
    have px : (part 5 (U8 xs).toArray (i * 1)).run Tryd.prog w = .ok (.int .u8 (xs.getD i 0)) w := by
      simp [part, isAgg, run_underlying Tryd.underlying5, List.getD, List.getElem?_eq_getElem (show i < xs.length by omega)]
    have py : (part 5 (U8 ys).toArray (i * 1)).run Tryd.prog w = .ok (.int .u8 (ys.getD i 0)) w := by
      simp [part, isAgg, run_underlying Tryd.underlying5, List.getD, List.getElem?_eq_getElem (show i < ys.length by omega)]
    have pe : (Op.equalIn (d + 1) 5 (.int .u8 (xs.getD i 0)) (.int .u8 (ys.getD i 0))).run Tryd.prog w = .ok (xs.getD i 0 == ys.getD i 0) w := run_equalIn_int w d 5 .u8 .u8 _ _ Tryd.underlying5
    simp only [List.forIn_cons, Sem.run_bind, px, py, pe, Result.andThen_ok, List.all_cons]
    cases hb : (xs.getD i 0 == ys.getD i 0)
    · simp
    · simp only [Bool.not_true, Bool.false_eq_true, if_false, Sem.run_pure, Result.andThen_ok, Bool.true_and]
      exact ih fun j hj => hl j (by simp [hj])
theorem eqlW (w : World) (xs ys : List Int) (hx : xs.length = 64) (hy : ys.length = 64) :
    (binOp .eql 84 (.agg (U8 xs).toArray) (.agg (U8 ys).toArray)).run Tryd.prog w = .ok (.bool (decide (xs = ys))) w := by
  rw [run_eql_struct, equalW w 9998 xs ys hx hy]
  rfl
theorem neqW (w : World) (xs ys : List Int) (hx : xs.length = 64) (hy : ys.length = 64) :
    (binOp .neq 84 (.agg (U8 xs).toArray) (.agg (U8 ys).toArray)).run Tryd.prog w = .ok (.bool (!decide (xs = ys))) w := by
  rw [run_neq_struct, equalW w 9998 xs ys hx hy]
  rfl
theorem eqgW : Tryd.prog.eqGuardType Tryd.prog.depth 84 = false := by kernel_rfl

theorem allV (v : List Int) : (U8 v).toArray.all (·.oneCell') = true := all_oneCell_toArray (ones_u8 v)
theorem allocV (w : World) : (Instr.alloc 23 true (.tuple #[])).run Tryd.prog w = .ok (.pointer (some ⟨w.heap.size, 0, none⟩)) (w.alloc (.cells (U8 (zs 32)).toArray 23)) := by
  simp only [Instr.alloc, Sem.run_bind, zv 23 _ zeroV, Result.andThen_ok]
  simp [newVar, newRow, Value.cells]
theorem buildV (w : World) : (Instr.build 23 #[]).run Tryd.prog w = .ok (.agg (U8 (zs 32)).toArray) w := run_build w 23 _ _ (by kernel_rfl)
/-- a value lies there -/
abbrev VAt (w : World) (g : Nat) (v : List Int) : Prop := LAt 23 w g (U8 v)
theorem VAt.load {w : World} {g : Nat} {v : List Int} (h : VAt w g v) (hv : v.length = 32) : (Instr.loadAt 23 (.pointer (some ⟨g, 0, none⟩))).run Tryd.prog w = .ok (.agg (U8 v).toArray) w :=
  run_loadAt_mid w g 0 23 (U8 v) _ (LAt.range h) Tryd.underlying23 rfl (by rw [sizeV, U8_length, hv])
theorem VAt.store {w : World} {g : Nat} {u v : List Int} (h : VAt w g u) (hu : u.length = 32) (hv : v.length = 32) : (Instr.storeAt 23 (.pointer (some ⟨g, 0, none⟩)) (.agg (U8 v).toArray)).run Tryd.prog w = .ok () (w.setRow g (U8 v).toArray) :=
  LAt.store (ds := U8 v) h (by rw [sizeV, U8_length, hv]) (by rw [U8_length, U8_length, hu, hv]) (allV v)
theorem store_newV (w : World) (v : List Int) (hv : v.length = 32) : (Instr.storeAt 23 (.pointer (some ⟨w.heap.size, 0, none⟩)) (.agg (U8 v).toArray)).run Tryd.prog (w.alloc (.cells (U8 (zs 32)).toArray 23)) = .ok () (w.alloc (.cells (U8 v).toArray 23)) := by
  rw [VAt.store (LAt.new 23 w (U8 (zs 32))) (zs_len 32) hv, setRow_alloc]
theorem VAt.bin {w : World} {g : Nat} {v : List Int} (h : VAt w g v) (hv : v.length = 32) (hb : Bytes v) : BIn w (some ⟨g, 0, none⟩) 32 v := by
  refine ⟨hv, hb, fun _ => ⟨g, 0, rfl, fun i hi => ?_⟩⟩
  rw [Nat.zero_add, LAt.cell h i]
  simp [U8, List.getD, List.getElem?_eq_getElem (show i < v.length by omega)]
theorem VAt.sin {w : World} {g : Nat} {v : List Int} (h : VAt w g v) (hv : v.length = 32) (hb : Bytes v) : SIn w (.slice (some ⟨g, 0, none⟩) 32 32) v := ⟨_, 32, 32, rfl, h.bin hv hb, Nat.le_refl _, fun e => by cases e⟩
theorem results_val {fn : Func} {p u : Tmp} {ty : TypeId} (h : fn.results = #[.cell p ty, .tmp u]) (tmps : Array Value) (w : World) (g : Nat) (v : List Int) (d : TypeDesc)
    (hp : tmps.getD p undef = .pointer (some ⟨g, 0, none⟩)) (hg : VAt w g v) (hv : v.length = 32) (hu : Tryd.prog.underlying ty = some d) (hd : d.isRow = true) (hi : (Tryd.prog.info? ty).map (·.size) = some 32) :
    (results fn tmps).run Tryd.prog w = .ok (.tuple #[.agg (U8 v).toArray, tmps.getD u undef]) w := by
  rw [results_cell_tmp h, hp]
  simp only [asAddr, Sem.run_pure, Result.andThen_ok, run_loadVar_mid w g 0 ty _ d (LAt.range hg) hu hd (by rw [hi, U8_length, hv])]
theorem BIn.load23 {w : World} {g o : Nat} {xs : List Int} (h : BIn w (some ⟨g, o, none⟩) 32 xs) : (Instr.loadAt 23 (.pointer (some ⟨g, o, none⟩))).run Tryd.prog w = .ok (.agg (U8 xs).toArray) w :=
  run_loadAt_mid w g o 23 (U8 xs) _ h.range Tryd.underlying23 rfl (by rw [sizeV, U8_length, h.len])
theorem BIn.load84 {w : World} {g o : Nat} {xs : List Int} (h : BIn w (some ⟨g, o, none⟩) 64 xs) : (Instr.loadAt 84 (.pointer (some ⟨g, o, none⟩))).run Tryd.prog w = .ok (.agg (U8 xs).toArray) w :=
  run_loadAt_mid w g o 84 (U8 xs) _ h.range Tryd.underlying84 rfl (by rw [sizeW, U8_length, h.len])
theorem at84 (w : World) (a : Addr) (c : Nat) : (Instr.arrayAt 84 (.slice (some a) 64 c)).run Tryd.prog w = .ok (.pointer (some a)) w := run_arrayAt w 84 _ 64 _ 64 c Tryd.underlying84 (by omega)
theorem at23 (w : World) (a : Addr) (c : Nat) : (Instr.arrayAt 23 (.slice (some a) 32 c)).run Tryd.prog w = .ok (.pointer (some a)) w := run_arrayAt w 23 _ 32 _ 32 c Tryd.underlying23 (by omega)
end Go.Proofs.YtpenddnmmfpdjaaDoor
