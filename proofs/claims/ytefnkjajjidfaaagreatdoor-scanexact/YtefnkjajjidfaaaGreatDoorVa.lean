/-
  Layer 8: how a value lies in memory; what the operations on values do, said once.
-/
import Derived.Test.YtefnkjajjidfaaaGreatDoorHom
import Derived.Test.YtefnkjajjidfaaaGreatDoorLc
import Derived.Test.YtefnkjajjidfaaaGreatDoorDLq
namespace Go.Proofs.YtefnkjajjidfaaaGreatDoor
open Go.RowKit
theorem sizeV : (Tryz.prog.info? 55).map (·.size) = some 32 := by kernel_rfl
theorem zeroV : (Tryz.prog.info? 55).bind (·.zero) = some (.agg (U8 (zs 32)).toArray) := by kernel_rfl
theorem sizeOf5 (w : World) : (sizeOf 5).run Tryz.prog w = .ok 1 w := by
  cases hi : Tryz.prog.info? 5 with
  | none => have := size5; simp [hi] at this
  | some i =>
    have h := size5
    simp only [hi, Option.map_some, Option.some.injEq] at h
    simp [sizeOf, typeInfo, hi, h]
theorem all_range_eq : ∀ (xs ys : List Int), xs.length = ys.length → ((List.range xs.length).all fun i => xs.getD i 0 == ys.getD i 0) = decide (xs = ys)
  | [], [], _ => rfl
  | x :: xs, y :: ys, h => by
    have ih := all_range_eq xs ys (by simpa using h)
    rw [List.length_cons, List.range_succ_eq_map, List.all_cons, List.all_map]
    simp only [List.getD_cons_zero, Function.comp_def, List.getD_cons_succ, ih]
    rw [Bool.eq_iff_iff]
    simp
  | [], _ :: _, h => by simp at h
  | _ :: _, [], h => by simp at h
theorem equalV (w : World) (d : Nat) (xs ys : List Int) (hx : xs.length = 32) (hy : ys.length = 32) :
    (Op.equalIn (d + 2) 55 (.agg (U8 xs).toArray) (.agg (U8 ys).toArray)).run Tryz.prog w = .ok (decide (xs = ys)) w := by
  rw [← all_range_eq xs ys (hx.trans hy.symm), hx, List.range_eq_range', Op.equalIn]
  simp only [Sem.run_bind, run_underlying Tryz.underlying55, Result.andThen_ok, sizeOf5, Std.Legacy.Range.forIn_eq_forIn_range', Std.Legacy.Range.size, Nat.sub_zero, Nat.add_sub_cancel, Nat.div_one]
  have hl : ∀ i ∈ List.range' 0 32 1, i < 32 := fun i hi => by simpa using (List.mem_range'_1.1 hi).2
  generalize List.range' 0 32 1 = l at hl ⊢
  induction l with
  | nil => simp
  | cons i l ih =>
    have hi : i < 32 := hl i (by simp)
    have px : (part 5 (U8 xs).toArray (i * 1)).run Tryz.prog w = .ok (.int .u8 (xs.getD i 0)) w := by
      simp [part, isAgg, run_underlying Tryz.underlying5, List.getD, List.getElem?_eq_getElem (show i < xs.length by omega)]
    have py : (part 5 (U8 ys).toArray (i * 1)).run Tryz.prog w = .ok (.int .u8 (ys.getD i 0)) w := by
      simp [part, isAgg, run_underlying Tryz.underlying5, List.getD, List.getElem?_eq_getElem (show i < ys.length by omega)]
    have pe : (Op.equalIn (d + 1) 5 (.int .u8 (xs.getD i 0)) (.int .u8 (ys.getD i 0))).run Tryz.prog w = .ok (xs.getD i 0 == ys.getD i 0) w := run_equalIn_int w d 5 .u8 .u8 _ _ Tryz.underlying5
    simp only [List.forIn_cons, Sem.run_bind, px, py, pe, Result.andThen_ok, List.all_cons]
    cases hb : (xs.getD i 0 == ys.getD i 0)
    · simp
    · simp only [Bool.not_true, Bool.false_eq_true, if_false, Sem.run_pure, Result.andThen_ok, Bool.true_and]
      exact ih fun j hj => hl j (by simp [hj])
theorem eqlV (w : World) (xs ys : List Int) (hx : xs.length = 32) (hy : ys.length = 32) :
    (binOp .eql 55 (.agg (U8 xs).toArray) (.agg (U8 ys).toArray)).run Tryz.prog w = .ok (.bool (decide (xs = ys))) w := by
  rw [run_eql_struct, equalV w 9998 xs ys hx hy]
  rfl
theorem neqV (w : World) (xs ys : List Int) (hx : xs.length = 32) (hy : ys.length = 32) :
    (binOp .neq 55 (.agg (U8 xs).toArray) (.agg (U8 ys).toArray)).run Tryz.prog w = .ok (.bool (!decide (xs = ys))) w := by
  rw [run_neq_struct, equalV w 9998 xs ys hx hy]
  rfl
theorem eqgV : Tryz.prog.eqGuardType Tryz.prog.depth 55 = false := by kernel_rfl
theorem allV (v : List Int) : (U8 v).toArray.all (·.oneCell') = true := all_oneCell_toArray (ones_u8 v)
theorem allocV (w : World) : (Instr.alloc 55 true (.tuple #[])).run Tryz.prog w = .ok (.pointer (some ⟨w.heap.size, 0, none⟩)) (w.alloc (.cells (U8 (zs 32)).toArray 55)) := by
  simp only [Instr.alloc, Sem.run_bind, zv 55 _ zeroV, Result.andThen_ok]
  simp [newVar, newRow, Value.cells]
theorem buildV (w : World) : (Instr.build 55 #[]).run Tryz.prog w = .ok (.agg (U8 (zs 32)).toArray) w := run_build w 55 _ _ (by kernel_rfl)
/-- a value lies there -/
abbrev VAt (w : World) (g : Nat) (v : List Int) : Prop := LAt 55 w g (U8 v)
theorem VAt.load {w : World} {g : Nat} {v : List Int} (h : VAt w g v) (hv : v.length = 32) : (Instr.loadAt 55 (.pointer (some ⟨g, 0, none⟩))).run Tryz.prog w = .ok (.agg (U8 v).toArray) w :=
  run_loadAt_mid w g 0 55 (U8 v) _ (LAt.range h) Tryz.underlying55 rfl (by rw [sizeV, U8_length, hv])
theorem VAt.store {w : World} {g : Nat} {u v : List Int} (h : VAt w g u) (hu : u.length = 32) (hv : v.length = 32) : (Instr.storeAt 55 (.pointer (some ⟨g, 0, none⟩)) (.agg (U8 v).toArray)).run Tryz.prog w = .ok () (w.setRow g (U8 v).toArray) :=
  LAt.store (ds := U8 v) h (by rw [sizeV, U8_length, hv]) (by rw [U8_length, U8_length, hu, hv]) (allV v)
theorem store_newV (w : World) (v : List Int) (hv : v.length = 32) : (Instr.storeAt 55 (.pointer (some ⟨w.heap.size, 0, none⟩)) (.agg (U8 v).toArray)).run Tryz.prog (w.alloc (.cells (U8 (zs 32)).toArray 55)) = .ok () (w.alloc (.cells (U8 v).toArray 55)) := by
  rw [VAt.store (LAt.new 55 w (U8 (zs 32))) (zs_len 32) hv, setRow_alloc]
theorem VAt.bin {w : World} {g : Nat} {v : List Int} (h : VAt w g v) (hv : v.length = 32) (hb : Bytes v) : BIn w (some ⟨g, 0, none⟩) 32 v := by
  refine ⟨hv, hb, fun _ => ⟨g, 0, rfl, fun i hi => ?_⟩⟩
  rw [Nat.zero_add, LAt.cell h i]
  simp [U8, List.getD, List.getElem?_eq_getElem (show i < v.length by omega)]
theorem VAt.sin {w : World} {g : Nat} {v : List Int} (h : VAt w g v) (hv : v.length = 32) (hb : Bytes v) : SIn w (.slice (some ⟨g, 0, none⟩) 32 32) v := ⟨_, 32, 32, rfl, h.bin hv hb, Nat.le_refl _, fun e => by cases e⟩
theorem results_val {fn : Func} {p u : Tmp} {ty : TypeId} (h : fn.results = #[.cell p ty, .tmp u]) (tmps : Array Value) (w : World) (g : Nat) (v : List Int) (d : TypeDesc)
    (hp : tmps.getD p undef = .pointer (some ⟨g, 0, none⟩)) (hg : VAt w g v) (hv : v.length = 32) (hu : Tryz.prog.underlying ty = some d) (hd : d.isRow = true) (hi : (Tryz.prog.info? ty).map (·.size) = some 32) :
    (results fn tmps).run Tryz.prog w = .ok (.tuple #[.agg (U8 v).toArray, tmps.getD u undef]) w := by
  rw [results_cell_tmp h, hp]
  simp only [asAddr, Sem.run_pure, Result.andThen_ok, run_loadVar_mid w g 0 ty _ d (LAt.range hg) hu hd (by rw [hi, U8_length, hv])]
theorem BIn.load23 {w : World} {g o : Nat} {xs : List Int} (h : BIn w (some ⟨g, o, none⟩) 32 xs) : (Instr.loadAt 55 (.pointer (some ⟨g, o, none⟩))).run Tryz.prog w = .ok (.agg (U8 xs).toArray) w :=
  run_loadAt_mid w g o 55 (U8 xs) _ h.range Tryz.underlying55 rfl (by rw [sizeV, U8_length, h.len])
theorem at23 (w : World) (a : Addr) (c : Nat) : (Instr.arrayAt 55 (.slice (some a) 32 c)).run Tryz.prog w = .ok (.pointer (some a)) w := run_arrayAt w 55 _ 32 _ 32 c Tryz.underlying55 (by omega)
end Go.Proofs.YtefnkjajjidfaaaGreatDoor
