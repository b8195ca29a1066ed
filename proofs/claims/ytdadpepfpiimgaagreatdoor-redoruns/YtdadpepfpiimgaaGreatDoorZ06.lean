import Derived.Test.YtdadpepfpiimgaaGreatDoorZ05
set_option maxHeartbeats 20000000
set_option maxRecDepth 100000
namespace Go.Proofs.YtdadpepfpiimgaaGreatDoor.R
open Go.RowKit
theorem size31 : (Tryz.prog.info? 139).map (·.size) = some 36 := by kernel_rfl
theorem size24 : (Tryz.prog.info? 39).map (·.size) = some 32 := by kernel_rfl
def rcells (r : Rec) : List Value := .int .i64 r.kind :: .int .u64 r.pos :: .int .i64 r.block :: (U8 r.val ++ [.int .i64 r.images])
theorem rcells_len (r : Rec) (h : r.val.length = 32) : (rcells r).length = 36 := by simp [rcells, h]
theorem rcells_ones (r : Rec) : ∀ v ∈ rcells r, v.oneCell' = true := by
  intro v hv
  simp only [rcells, List.mem_cons, List.mem_append, List.not_mem_nil, or_false] at hv
  rcases hv with rfl | rfl | rfl | hv | rfl
  · rfl
  · rfl
  · rfl
  · exact ones_u8 _ v hv
  · rfl
theorem rcells_all (r : Rec) : (rcells r).toArray.all (·.oneCell') = true := all_oneCell_toArray (rcells_ones r)
theorem rcells_val (r : Rec) (j : Nat) (hj : j < r.val.length) : (rcells r)[3 + j]? = some (.int .u8 r.val[j]) := by
  rw [rcells, show 3 + j = j + 1 + 1 + 1 by omega, List.getElem?_cons_succ, List.getElem?_cons_succ, List.getElem?_cons_succ, List.getElem?_append_left (by simpa using hj)]
  simp [List.getElem?_eq_getElem hj]
theorem rcells_35 (r : Rec) (h : r.val.length = 32) : (rcells r)[35]? = some (.int .i64 r.images) := by
  rw [rcells, List.getElem?_cons_succ, List.getElem?_cons_succ, List.getElem?_cons_succ, List.getElem?_append_right (by simp [h])]
  simp [h]
def RAt (t : TypeId) (w : World) (g : Nat) (r : Rec) : Prop := w.heap[g]? = some (.cells (rcells r).toArray t (0, 0))
theorem RAt.lt {t : TypeId} {w : World} {g : Nat} {r : Rec} (h : RAt t w g r) : g < w.heap.size := (Array.getElem?_eq_some_iff.1 h).1
theorem RAt.later {t : TypeId} {w w' : World} {g : Nat} {r : Rec} (h : RAt t w g r) (hb : Below w.heap.size w w') : RAt t w' g r := (hb.block g h.lt).trans h
theorem RAt.new (t : TypeId) (w : World) (r : Rec) : RAt t (w.alloc (.cells (rcells r).toArray t)) w.heap.size r := heap_alloc_new w _
theorem RAt.drew {t : TypeId} {w : World} {g : Nat} {r : Rec} (h : RAt t w g r) : RAt t w.drew g r := h
theorem RAt.cell {t : TypeId} {w : World} {g : Nat} {r : Rec} (h : RAt t w g r) (j : Nat) : w.cell? ⟨g, j, none⟩ = (rcells r)[j]? := by
  rw [cell_of_row w g j (rcells r).toArray t (0, 0) h]; simp
theorem RAt.c0 {t : TypeId} {w : World} {g : Nat} {r : Rec} (h : RAt t w g r) : w.cell? ⟨g, 0, none⟩ = some (.int .i64 r.kind) := h.cell 0
theorem RAt.c1 {t : TypeId} {w : World} {g : Nat} {r : Rec} (h : RAt t w g r) : w.cell? ⟨g, 1, none⟩ = some (.int .u64 r.pos) := h.cell 1
theorem RAt.c2 {t : TypeId} {w : World} {g : Nat} {r : Rec} (h : RAt t w g r) : w.cell? ⟨g, 2, none⟩ = some (.int .i64 r.block) := h.cell 2
theorem RAt.c35 {t : TypeId} {w : World} {g : Nat} {r : Rec} (h : RAt t w g r) (hv : r.val.length = 32) : w.cell? ⟨g, 35, none⟩ = some (.int .i64 r.images) := (h.cell 35).trans (rcells_35 r hv)
theorem RAt.range {t : TypeId} {w : World} {g : Nat} {r : Rec} (h : RAt t w g r) : w.rangeAt g 0 (rcells r) := fun j v hv => by
  rw [Nat.zero_add, h.cell j]; exact hv
theorem RAt.vrange {t : TypeId} {w : World} {g : Nat} {r : Rec} (h : RAt t w g r) : w.rangeAt g 3 (U8 r.val) := fun j v hv => by
  have hj : j < r.val.length := by simpa using (List.getElem?_eq_some_iff.1 hv).1
  rw [h.cell (3 + j), rcells_val r j hj, ← hv]
  simp [List.getElem?_eq_getElem hj]
theorem RAt.load31 {t : TypeId} {w : World} {g : Nat} {r : Rec} (h : RAt t w g r) (hv : r.val.length = 32) : (Instr.loadAt 139 (.pointer (some ⟨g, 0, none⟩))).run Tryz.prog w = .ok (.agg (rcells r).toArray) w :=
  run_loadAt_mid w g 0 139 (rcells r) _ h.range Tryz.underlying139 rfl (by rw [size31, rcells_len r hv])
theorem RAt.load24 {t : TypeId} {w : World} {g : Nat} {r : Rec} (h : RAt t w g r) (hv : r.val.length = 32) : (Instr.loadAt 39 (.pointer (some ⟨g, 3, none⟩))).run Tryz.prog w = .ok (.agg (U8 r.val).toArray) w :=
  run_loadAt_mid w g 3 39 (U8 r.val) _ h.vrange Tryz.underlying39 rfl (by rw [size24, U8_length, hv])
def pl : List (Nat × Nat) := [(0, 1), (1, 1), (2, 1), (3, 32), (35, 1)]
theorem places31 : placesOf Tryz.prog 139 = some pl := by kernel_rfl
theorem zero31 : (Tryz.prog.info? 139).bind (·.zero) = some (.agg (rcells rec0).toArray) := by kernel_rfl
theorem fill_step (off n : Nat) (i : Nat) (hp : pl.toArray[i]? = some (off, n)) (v : Value) (vs cs : List Value) (hv : v.cells = vs.toArray) (hn : vs.length = n) (hl : off + n ≤ cs.length) (rest : List (Nat × Value)) :
    Instr.fill (pl.toArray[·]?) cs.toArray ((i, v) :: rest) = Instr.fill (pl.toArray[·]?) (cs.take off ++ vs ++ cs.drop (off + vs.length)).toArray rest := by
  have a0 := part_fill off vs cs (by omega)
  have a1 : vs.toArray.zipIdx.foldl (fun cs x => match x with | (c, j) => cs.setIfInBounds (off + j) c) cs.toArray = (cs.take off ++ vs ++ cs.drop (off + vs.length)).toArray := a0
  simp only [Instr.fill]
  rw [hp]
  dsimp only
  rw [hv]
  simp only [List.size_toArray]
  rw [if_neg (by simp [hn]; omega), a1]
theorem fill_k (r : Rec) (h : r.val.length = 32) (k : Int) (rest : List (Nat × Value)) : Instr.fill (pl.toArray[·]?) (rcells r).toArray ((0, .int .i64 k) :: rest) = Instr.fill (pl.toArray[·]?) (rcells ⟨k, r.pos, r.block, r.val, r.images⟩).toArray rest :=
  fill_step 0 1 0 rfl _ [.int .i64 k] _ rfl rfl (by rw [rcells_len r h]; omega) rest
theorem fill_p (r : Rec) (h : r.val.length = 32) (k : Int) (rest : List (Nat × Value)) : Instr.fill (pl.toArray[·]?) (rcells r).toArray ((1, .int .u64 k) :: rest) = Instr.fill (pl.toArray[·]?) (rcells ⟨r.kind, k, r.block, r.val, r.images⟩).toArray rest :=
  fill_step 1 1 1 rfl _ [.int .u64 k] _ rfl rfl (by rw [rcells_len r h]; omega) rest
theorem fill_b (r : Rec) (h : r.val.length = 32) (k : Int) (rest : List (Nat × Value)) : Instr.fill (pl.toArray[·]?) (rcells r).toArray ((2, .int .i64 k) :: rest) = Instr.fill (pl.toArray[·]?) (rcells ⟨r.kind, r.pos, k, r.val, r.images⟩).toArray rest :=
  fill_step 2 1 2 rfl _ [.int .i64 k] _ rfl rfl (by rw [rcells_len r h]; omega) rest
theorem fill_v (r : Rec) (h : r.val.length = 32) (v : List Int) (hv : v.length = 32) (rest : List (Nat × Value)) : Instr.fill (pl.toArray[·]?) (rcells r).toArray ((3, .agg (U8 v).toArray) :: rest) = Instr.fill (pl.toArray[·]?) (rcells ⟨r.kind, r.pos, r.block, v, r.images⟩).toArray rest := by
  rw [fill_step 3 32 3 rfl _ (U8 v) _ rfl (by rw [U8_length, hv]) (by rw [rcells_len r h]; omega) rest]
  congr 2
  rw [U8_length, hv]
  simp only [rcells, List.take_succ_cons, List.take_zero, List.cons_append, List.nil_append, List.drop_succ_cons]
  rw [List.drop_append, U8_length, h, List.drop_of_length_le (by rw [U8_length, h]; omega)]
  rfl
theorem fill_i (r : Rec) (h : r.val.length = 32) (k : Int) (rest : List (Nat × Value)) : Instr.fill (pl.toArray[·]?) (rcells r).toArray ((4, .int .i64 k) :: rest) = Instr.fill (pl.toArray[·]?) (rcells ⟨r.kind, r.pos, r.block, r.val, k⟩).toArray rest := by
  rw [fill_step 35 1 4 rfl _ [.int .i64 k] _ rfl rfl (by rw [rcells_len r h]; omega) rest]
  congr 2
  simp only [rcells, List.take_succ_cons, List.cons_append, List.drop_succ_cons, List.length_singleton]
  rw [List.take_append, U8_length, h, List.take_of_length_le (by rw [U8_length, h]; omega), List.drop_of_length_le (by simp [h])]
  simp
theorem fill_end (r : Rec) : Instr.fill (pl.toArray[·]?) (rcells r).toArray [] = some (rcells r).toArray := rfl
theorem build31 (w : World) (parts : Array (Nat × Value)) (r : Rec) (h : Instr.fill (pl.toArray[·]?) (rcells rec0).toArray parts.toList = some (rcells r).toArray) : (Instr.build 139 parts).run Tryz.prog w = .ok (.agg (rcells r).toArray) w :=
  run_build w 139 _ _ ((built_of 139 _ _ _ places31 zero31).trans h)
theorem rec0_len : rec0.val.length = 32 := zs_len 32
theorem sizeOf5 (w : World) : (sizeOf 5).run Tryz.prog w = .ok 1 w := by
  cases hi : Tryz.prog.info? 5 with
  | none => have := size5; simp [hi] at this
  | some i =>
    have h := size5
    simp only [hi, Option.map_some, Option.some.injEq] at h
    simp [sizeOf, typeInfo, hi, h]
theorem all_range_eq : ∀ (xs ys : List Int), xs.length = ys.length → ((List.range xs.length).all fun i => xs.getD i 0 == ys.getD i 0) = decide (xs = ys)
  | [], [], _ => rfl
  | x :: xs, y :: ys, h => by
    have ih := all_range_eq xs ys (by simpa using h)
    rw [List.length_cons, List.range_succ_eq_map, List.all_cons, List.all_map]
    simp only [List.getD_cons_zero, Function.comp_def, List.getD_cons_succ, ih]
    rw [Bool.eq_iff_iff]
    simp
  | [], _ :: _, h => by simp at h
  | _ :: _, [], h => by simp at h
theorem equal24 (w : World) (d : Nat) (xs ys : List Int) (hx : xs.length = 32) (hy : ys.length = 32) :
    (Op.equalIn (d + 2) 39 (.agg (U8 xs).toArray) (.agg (U8 ys).toArray)).run Tryz.prog w = .ok (decide (xs = ys)) w := by
  rw [← all_range_eq xs ys (hx.trans hy.symm), hx, List.range_eq_range', Op.equalIn]
  simp only [Sem.run_bind, run_underlying Tryz.underlying39, Result.andThen_ok, sizeOf5, Std.Legacy.Range.forIn_eq_forIn_range', Std.Legacy.Range.size, Nat.sub_zero, Nat.add_sub_cancel, Nat.div_one]
  have hl : ∀ i ∈ List.range' 0 32 1, i < 32 := fun i hi => by simpa using (List.mem_range'_1.1 hi).2
  generalize List.range' 0 32 1 = l at hl ⊢
  induction l with
  | nil => simp
  | cons i l ih =>
    have hi : i < 32 := hl i (by simp)
    have px : (part 5 (U8 xs).toArray (i * 1)).run Tryz.prog w = .ok (.int .u8 (xs.getD i 0)) w := by
      simp [part, isAgg, run_underlying Tryz.underlying5, List.getD, List.getElem?_eq_getElem (show i < xs.length by omega)]
    have py : (part 5 (U8 ys).toArray (i * 1)).run Tryz.prog w = .ok (.int .u8 (ys.getD i 0)) w := by
      simp [part, isAgg, run_underlying Tryz.underlying5, List.getD, List.getElem?_eq_getElem (show i < ys.length by omega)]
    have pe : (Op.equalIn (d + 1) 5 (.int .u8 (xs.getD i 0)) (.int .u8 (ys.getD i 0))).run Tryz.prog w = .ok (xs.getD i 0 == ys.getD i 0) w := run_equalIn_int w d 5 .u8 .u8 _ _ Tryz.underlying5
    simp only [List.forIn_cons, Sem.run_bind, px, py, pe, Result.andThen_ok, List.all_cons]
    cases hb : (xs.getD i 0 == ys.getD i 0)
    · simp
    · simp only [Bool.not_true, Bool.false_eq_true, if_false, Sem.run_pure, Result.andThen_ok, Bool.true_and]
      exact ih fun j hj => hl j (by simp [hj])
theorem eql24 (w : World) (xs ys : List Int) (hx : xs.length = 32) (hy : ys.length = 32) :
    (binOp .eql 39 (.agg (U8 xs).toArray) (.agg (U8 ys).toArray)).run Tryz.prog w = .ok (.bool (decide (xs = ys))) w := by
  rw [run_eql_struct, equal24 w 9998 xs ys hx hy]
  rfl
theorem eqg24 : Tryz.prog.eqGuardType Tryz.prog.depth 39 = false := by kernel_rfl
theorem build24 (w : World) : (Instr.build 39 #[]).run Tryz.prog w = .ok (.agg (U8 (zs 32)).toArray) w := run_build w 39 _ _ (by kernel_rfl)
theorem alloc31 (w : World) : (Instr.alloc 139 true (.tuple #[])).run Tryz.prog w = .ok (.pointer (some ⟨w.heap.size, 0, none⟩)) (w.alloc (.cells (rcells rec0).toArray 139)) := by
  simp only [Instr.alloc, Sem.run_bind, zv 139 _ zero31, Result.andThen_ok]
  simp [newVar, newRow, Value.cells]
theorem RAt.store {t : TypeId} (ht : (Tryz.prog.info? t).map (·.size) = some 36) {w : World} {g : Nat} {r s : Rec} (h : RAt t w g r) (hr : r.val.length = 32) (hs : s.val.length = 32) :
    (Instr.storeAt t (.pointer (some ⟨g, 0, none⟩)) (.agg (rcells s).toArray)).run Tryz.prog w = .ok () (w.setRow g (rcells s).toArray) := by
  simp only [Instr.storeAt, Instr.sureAddr, Sem.run_bind, Sem.run_pure, Result.andThen_ok, run_storeVar_row w g t t (rcells r).toArray (rcells s).toArray h (by rw [ht, List.size_toArray, rcells_len s hs]) (by rw [List.size_toArray, List.size_toArray, rcells_len s hs, rcells_len r hr]) (rcells_all s)]
theorem RAt.stored {t : TypeId} {w : World} {g : Nat} {r : Rec} (h : RAt t w g r) (s : Rec) : RAt t (w.setRow g (rcells s).toArray) g s := setRow_heap w g _ _ t (0, 0) h
theorem store_new {t : TypeId} (ht : (Tryz.prog.info? t).map (·.size) = some 36) (w : World) (s : Rec) (hs : s.val.length = 32) :
    (Instr.storeAt t (.pointer (some ⟨w.heap.size, 0, none⟩)) (.agg (rcells s).toArray)).run Tryz.prog (w.alloc (.cells (rcells rec0).toArray t)) = .ok () (w.alloc (.cells (rcells s).toArray t)) := by
  rw [RAt.store ht (RAt.new t w rec0) rec0_len hs, setRow_alloc]
theorem results_rec {fn : Func} {p u : Tmp} {ty : TypeId} (h : fn.results = #[.cell p ty, .tmp u]) (tmps : Array Value) (w : World) (g : Nat) (t : TypeId) (r : Rec) (d : TypeDesc)
    (hp : tmps.getD p undef = .pointer (some ⟨g, 0, none⟩)) (hg : RAt t w g r) (hv : r.val.length = 32) (hu : Tryz.prog.underlying ty = some d) (hd : d.isRow = true) (hi : (Tryz.prog.info? ty).map (·.size) = some 36) :
    (results fn tmps).run Tryz.prog w = .ok (.tuple #[.agg (rcells r).toArray, tmps.getD u undef]) w := by
  rw [results_cell_tmp h, hp]
  simp only [asAddr, Sem.run_pure, Result.andThen_ok, run_loadVar_mid w g 0 ty _ d hg.range hu hd (by rw [hi, rcells_len r hv])]
theorem results_cell1 {fn : Func} {p : Tmp} {ty : TypeId} (h : fn.results = #[.cell p ty]) (tmps : Array Value) (w : World) (g : Nat) (t : TypeId) (r : Rec) (d : TypeDesc)
    (hp : tmps.getD p undef = .pointer (some ⟨g, 0, none⟩)) (hg : RAt t w g r) (hv : r.val.length = 32) (hu : Tryz.prog.underlying ty = some d) (hd : d.isRow = true) (hi : (Tryz.prog.info? ty).map (·.size) = some 36) :
    (results fn tmps).run Tryz.prog w = .ok (.agg (rcells r).toArray) w := by
  have hp' : tmps[p]?.getD undef = .pointer (some ⟨g, 0, none⟩) := by simpa using hp
  simp [results, h, hp', asAddr, run_loadVar_mid w g 0 ty _ d hg.range hu hd (by rw [hi, rcells_len r hv])]
end Go.Proofs.YtdadpepfpiimgaaGreatDoor.R
namespace Go.Proofs.YtdadpepfpiimgaaGreatDoor.R
open Go.RowKit
set_option maxHeartbeats 400000 in
set_option maxRecDepth 100000 in
theorem image_any (r : Rec) (hv : r.val.length = 32) (w : World) :
    Calls Tryz.prog 136 #[.agg (rcells r).toArray] w fun e w' => e = .returned (.bool (imageB r)) ∧ Below w.heap.size w w' := by
  have hA := RAt.new 139 w r
  have c0 := hA.c0
  have c2 := hA.c2
  have c4 := hA.c35 hv
  have HB : Hid (Below w.heap.size w (w.alloc (.cells (rcells r).toArray 139))) := below_alloc w _
  clear hA hv
  go_enter Tryz.func136, Tryz.ntmps136
  go_wp2
  all_goals go_ret
  all_goals (refine ⟨?_, HB.out⟩)
  all_goals (clear c0 c2 c4; unfold imageB; simp_all <;> (intros; omega))
set_option maxHeartbeats 1000000 in
set_option maxRecDepth 100000 in
theorem commit_any (r : Rec) (hv : r.val.length = 32) (w : World) :
    Calls Tryz.prog 137 #[.agg (rcells r).toArray] w fun e w' => e = .returned (.bool (commitB r)) ∧ Below w.heap.size w w' := by
  have hA := RAt.new 139 w r
  have c0 := hA.c0
  have c2 := hA.c2
  have c4 := hA.c35 hv
  have L3 : Hid (_) := hA.load24 hv
  have B3 : Hid (_) := build24 (w.alloc (.cells (rcells r).toArray 139))
  have Q3 : Hid (_) := eql24 (w.alloc (.cells (rcells r).toArray 139)) r.val (zs 32) hv (zs_len 32)
  have HB : Hid (Below w.heap.size w (w.alloc (.cells (rcells r).toArray 139))) := below_alloc w _
  clear hA hv
  go_enter Tryz.func137, Tryz.ntmps137
  go_wp2_with (first | (refine wpList_load_is (by rfl) 39 rfl rfl L3.out ?_) | (refine wpList_build_is (by rfl) 39 rfl rfl B3.out ?_) | (refine wpList_eql_is (by rfl) 39 rfl rfl rfl eqg24 Q3.out ?_))
  all_goals go_ret
  all_goals (refine ⟨?_, HB.out⟩)
  all_goals (clear c0 c2 c4 L3 B3 Q3; unfold commitB; simp_all <;> (intros; omega))
theorem chk_image (r : Rec) (hp : r.pos ≤ 4611686018427387904) (h : imageB r = true) : chk r = 0 := by
  unfold chk may; rw [h, decide_eq_true hp]; rfl
theorem chk_commit (r : Rec) (hp : r.pos ≤ 4611686018427387904) (h : commitB r = true) : chk r = 0 := by
  unfold chk may; rw [h, decide_eq_true hp]; simp
theorem chk_none (r : Rec) (h : imageB r = false) (h2 : commitB r = false) : chk r = 60 := by
  unfold chk may; rw [h, h2]; simp
theorem chk_pos (r : Rec) (hp : ¬ r.pos ≤ 4611686018427387904) : chk r = 60 := by
  unfold chk may; rw [decide_eq_false hp]; rfl
set_option maxHeartbeats 1000000 in
set_option maxRecDepth 100000 in
theorem check_any (r : Rec) (hv : r.val.length = 32) (w : World) :
    Calls Tryz.prog 117 #[.agg (rcells r).toArray] w fun e w' => e = .returned (.int .i64 (chk r)) ∧ Below w.heap.size w w' := by
  have hA := RAt.new 139 w r
  have c1 := hA.c1
  have L1 : Hid (_) := hA.load31 hv
  have HA : Hid (RAt 139 (w.alloc (.cells (rcells r).toArray 139)) w.heap.size r) := hA
  have HB : Hid (Below w.heap.size w (w.alloc (.cells (rcells r).toArray 139))) := below_alloc w _
  have HV : Hid (r.val.length = 32) := hv
  clear hA hv
  go_enter Tryz.func117, Tryz.ntmps117
  by_cases hp : r.pos ≤ 4611686018427387904
  · have hp' : ¬ 4611686018427387904 < r.pos := by omega
    go_wp2_with (refine wpList_load_is (by rfl) 139 rfl rfl L1.out ?_)
    refine (image_any r HV.out _).mono ?_
    rintro e w1 ⟨rfl, b1⟩
    have HA1 : Hid (RAt 139 w1 w.heap.size r) := HA.out.later b1
    have HB1 : Hid (Below w.heap.size w w1) := below_then HB.out b1
    have L2 : Hid (_) := HA1.out.load31 HV.out
    clear c1 L1 b1 HA HB
    cases hi : imageB r with
    | true =>
      have HC : Hid (chk r = 0) := chk_image r hp hi
      go_wp2_with fail
      go_ret
      exact ⟨by rw [HC.out]; rfl, HB1.out⟩
    | false =>
      go_wp2_with (refine wpList_load_is (by rfl) 139 rfl rfl L2.out ?_)
      refine (commit_any r HV.out _).mono ?_
      rintro e w2 ⟨rfl, b2⟩
      have HB2 : Hid (Below w.heap.size w w2) := below_then HB1.out b2
      clear b2 L2
      cases hc : commitB r with
      | true =>
        have HC : Hid (chk r = 0) := chk_commit r hp hc
        go_wp2_with fail
        go_ret
        exact ⟨by rw [HC.out]; rfl, HB2.out⟩
      | false =>
        have HC : Hid (chk r = 60) := chk_none r hi hc
        go_wp2_with fail
        go_ret
        exact ⟨by rw [HC.out]; rfl, HB2.out⟩
  · have HC : Hid (chk r = 60) := chk_pos r hp
    have hp' : 4611686018427387904 < r.pos := by omega
    go_wp2_with fail
    go_ret
    exact ⟨by rw [HC.out]; rfl, HB.out⟩
set_option maxHeartbeats 400000 in
set_option maxRecDepth 100000 in
theorem number_rec (r : Rec) (hv : r.val.length = 32) (hm : may r = true) (w : World) :
    Calls Tryz.prog 119 #[.agg (rcells r).toArray] w fun e w' => e = .returned (.int .u64 (numS r)) ∧ Below w.heap.size w w' := by
  have hA := RAt.new 139 w r
  have c0 := hA.c0
  have c2 := hA.c2
  have c4 := hA.c35 hv
  have HB : Hid (Below w.heap.size w (w.alloc (.cells (rcells r).toArray 139))) := below_alloc w _
  have hn := numS_bd r hm
  clear hA hv
  by_cases hk : r.kind = 1
  · have e : numS r = r.block := by unfold numS; rw [if_pos hk]
    rw [e] at hn ⊢
    obtain ⟨h0, h1⟩ := hn
    clear hm e
    go_enter Tryz.func119, Tryz.ntmps119
    go_wp2
    go_ret
    exact ⟨rfl, HB.out⟩
  · have e : numS r = r.images := by unfold numS; rw [if_neg hk]
    rw [e] at hn ⊢
    obtain ⟨h0, h1⟩ := hn
    clear hm e
    go_enter Tryz.func119, Tryz.ntmps119
    go_wp2
    go_ret
    exact ⟨rfl, HB.out⟩
set_option maxHeartbeats 400000 in
set_option maxRecDepth 100000 in
theorem rput_any (n : Int) (k : Nat) (w : World) (hn0 : 0 ≤ n) (hk : 1 ≤ k ∧ k ≤ 8) (hn : n / 256 ^ k = 0) :
    Calls Tryz.prog 118 #[.int .u64 n, .int .i64 k] w fun e w' => ∃ p c, e = .returned (.slice p k c) ∧ Made w w' p k c (digits k n) := by
  go_enter Tryz.func118, Tryz.ntmps118
  go_wp2_with fail
  refine (put_ok n k w hn0 hk hn).mono ?_
  rintro e w1 ⟨v, rfl, ho, hb⟩
  obtain ⟨p, c, rfl, hm⟩ := made_of ho (digits_bytes k n) hb
  clear ho hb hn
  go_wp2_with fail
  go_ret
  exact ⟨p, c, rfl, hm⟩
end Go.Proofs.YtdadpepfpiimgaaGreatDoor.R
namespace Go.Proofs.YtdadpepfpiimgaaGreatDoor.R
open Go.RowKit
theorem RAt.vin {t : TypeId} {w : World} {g : Nat} {r : Rec} (h : RAt t w g r) (hw : r.Wf) : BIn w (some ⟨g, 3, none⟩) 32 r.val := by
  refine ⟨hw.len, hw.byte, fun _ => ⟨g, 3, rfl, fun i hi => ?_⟩⟩
  have hi' : i < r.val.length := by rw [hw.len]; exact hi
  rw [h.cell (3 + i), rcells_val r i hi']
  simp [List.getD, List.getElem?_eq_getElem hi']
theorem join_new {w : World} {vs : List Value} {ls : List (List Int)} (h : SIns w vs ls) (n : Nat) (hn : vs.length = n) (hb : ls.flatten.length ≤ 100000) (hn2 : n ≤ 100) :
    Calls Tryz.prog 82 #[.slice (some ⟨w.heap.size, 0, none⟩) n n] (w.alloc (.cells vs.toArray 27)) fun e w' => ∃ p c, e = .returned (.slice p ls.flatten.length c) ∧ Made w w' p ls.flatten.length c ls.flatten := by
  have hB : ∀ l ∈ ls, Bytes l := by
    intro l hl
    obtain ⟨i, hi, rfl⟩ := List.getElem_of_mem hl
    obtain ⟨_, _, _, _, h1, _⟩ := h.at i (by rw [← h.len]; exact hi) hi
    exact h1.byte
  refine (join_any _ n n vs ls _ (pin_new h n hn) (by omega) (by omega)).mono ?_
  rintro e w' ⟨v, rfl, ho, hb2⟩
  exact (made_of (own_mono ho (by simp)) (Bytes.flatten hB) (below_of_alloc hb2)).elim fun p ⟨c, e, m⟩ => ⟨p, c, by rw [e], m⟩
theorem dig1 (k : Int) (h0 : 0 ≤ k) (h1 : k < 256) : digits 1 k = [k] := by
  simp only [digits]; rw [Int.emod_eq_of_lt h0 h1]
theorem div_zero (n m : Int) (h0 : 0 ≤ n) (h1 : n < m) : n / m = 0 := Int.ediv_eq_zero_of_lt h0 h1
theorem div1 (n : Int) (h0 : 0 ≤ n) (h1 : n < 256) : n / 256 ^ 1 = 0 := div_zero _ _ h0 (by rw [show (256 : Int) ^ 1 = 256 by decide]; omega)
theorem div8 (n : Int) (h0 : 0 ≤ n) (h1 : n ≤ 18446744073709551615) : n / 256 ^ 8 = 0 := div_zero _ _ h0 (by rw [show (256 : Int) ^ 8 = 18446744073709551616 by decide]; omega)
theorem div4 (n : Int) (h0 : 0 ≤ n) (h1 : n < 4294967296) : n / 256 ^ 4 = 0 := div_zero _ _ h0 (by rw [show (256 : Int) ^ 4 = 4294967296 by decide]; omega)
def encT (r : Rec) : List Int := if may r = true then encS r else []
theorem encT_yes (r : Rec) (h : may r = true) : encT r = encS r := if_pos h
theorem encT_no (r : Rec) (h : ¬ may r = true) : encT r = [] := if_neg h
theorem chk_yes (r : Rec) (h : may r = true) : chk r = 0 := by unfold chk; rw [if_pos h]
theorem chk_no (r : Rec) (h : ¬ may r = true) : chk r = 60 := by unfold chk; rw [if_neg h]
set_option maxHeartbeats 400000 in
set_option maxRecDepth 100000 in
theorem encode_bad (r : Rec) (hv : r.val.length = 32) (hm : ¬ may r = true) (w : World) :
    Calls Tryz.prog 93 #[.agg (rcells r).toArray] w fun e w' => e = .returned (.tuple #[.slice none 0 0, .int .i64 60]) ∧ Below w.heap.size w w' := by
  have L1 : Hid (_) := (RAt.new 139 w r).load31 hv
  have hc := chk_no r hm
  go_enter Tryz.func93, Tryz.ntmps93
  go_wp2_with (refine wpList_load_is (by rfl) 139 rfl rfl L1.out ?_)
  refine (check_any r hv _).mono ?_
  rintro e w1 ⟨rfl, b1⟩
  rw [hc]
  have HB : Hid (Below w.heap.size w w1) := below_of_alloc b1
  clear b1 L1 hm hc
  go_wp2_with fail
  go_ret2
  exact ⟨rfl, HB.out⟩
set_option maxHeartbeats 4000000 in
set_option maxRecDepth 100000 in
theorem encode_good (r : Rec) (hw : r.Wf) (hm : may r = true) (w : World) (ht : Half w) :
    Calls Tryz.prog 93 #[.agg (rcells r).toArray] w fun e w' => ∃ p c, e = .returned (.tuple #[.slice p 64 c, .int .i64 0]) ∧ Made w w' p 64 c (encS r) := by
  have HW : Hid (r.Wf) := hw
  have HM : Hid (may r = true) := hm
  have L1 : Hid (_) := (RAt.new 139 w r).load31 hw.len
  have hc := chk_yes r hm
  have HT : Hid (Half w) := ht
  have HN : Hid (0 ≤ numS r ∧ numS r < 64) := numS_bd r hm
  have HK : Hid (0 ≤ r.kind ∧ r.kind < 256) := by have := may_kind hm; exact ⟨by omega, by omega⟩
  have HP : Hid (0 ≤ r.pos ∧ r.pos ≤ 18446744073709551615) := ⟨hw.p0, hw.p1⟩
  go_enter Tryz.func93, Tryz.ntmps93
  go_wp2_with (refine wpList_load_is (by rfl) 139 rfl rfl L1.out ?_)
  refine (check_any r hw.len _).mono ?_
  rintro e w1 ⟨rfl, b1⟩
  rw [hc]
  have HB1 : Hid (Below w.heap.size w w1) := below_of_alloc b1
  have HA1 : Hid (RAt 139 w1 w.heap.size r) := (RAt.new 139 w r).later b1
  clear b1 L1 hm hc hw ht
  go_wp2_with fail
  have k0 := HK.out.1
  have k1 := HK.out.2
  have ks : IntKind.u64.wrap r.kind = r.kind := by rw [IntKind.wrap_u64]; omega
  refine wp_region_noPanic ?_
  refine wp_region_held_drew (S := fun w' => RAt 139 w' w.heap.size r) (by kernel_rfl) HA1.out.drew (fun hHeld => ?_)
  refine wpAnyH_take (i := 1) (v := ?v1) (by simp; rfl) (by kernel_rfl) (by kernel_rfl) (by kernel_rfl) (fun _ _ _ h => h) (Or.inl ⟨by rfl, ?y1⟩) hHeld ?r1
  case y1 => intro w hSw; clear hSw; go_simp; with_reducible rfl
  simp only [Act.put, List.setIfInBounds_toArray, List.set_cons_zero, List.set_cons_succ]
  refine wpAnyH_take (i := 2) (v := ?v2) (by simp; rfl) (by kernel_rfl) (by kernel_rfl) (by kernel_rfl) (fun _ _ _ h => h) (Or.inl ⟨by rfl, ?y2⟩) hHeld ?r2
  case y2 => intro w hSw; have z := RAt.c0 hSw; clear hSw; go_simp; with_reducible rfl
  simp only [Act.put, List.setIfInBounds_toArray, List.set_cons_zero, List.set_cons_succ]
  refine wpAnyH_take (i := 3) (v := ?v3) (by simp; rfl) (by kernel_rfl) (by kernel_rfl) (by kernel_rfl) (fun _ _ _ h => h) (Or.inl ⟨by rfl, ?y3⟩) hHeld ?r3
  case y3 => intro w hSw; clear hSw; go_simp; with_reducible rfl
  simp only [Act.put, List.setIfInBounds_toArray, List.set_cons_zero, List.set_cons_succ]
  refine wpAnyH_take (i := 6) (v := ?v6) (by simp; rfl) (by kernel_rfl) (by kernel_rfl) (by kernel_rfl) (fun _ _ _ h => h) (Or.inl ⟨by rfl, ?y6⟩) hHeld ?r6
  case y6 => intro w hSw; clear hSw; go_simp; with_reducible rfl
  simp only [Act.put, List.setIfInBounds_toArray, List.set_cons_zero, List.set_cons_succ]
  refine wpAnyH_take (i := 7) (v := ?v7) (by simp; rfl) (by kernel_rfl) (by kernel_rfl) (by kernel_rfl) (fun _ _ _ h => h) (Or.inl ⟨by rfl, ?y7⟩) hHeld ?r7
  case y7 => intro w hSw; have z := RAt.c1 hSw; clear hSw; go_simp; with_reducible rfl
  simp only [Act.put, List.setIfInBounds_toArray, List.set_cons_zero, List.set_cons_succ]
  refine wpAnyH_take (i := 9) (v := _) (by simp; rfl) (by kernel_rfl) (by kernel_rfl) (by kernel_rfl) (fun _ _ _ h => h) (yieldsIf_load_mid (by rfl) 139 (.tmp 1) rfl w.heap.size 0 rfl (rcells r) _ (fun _ h => RAt.range h) Tryz.underlying139 rfl (by rw [size31, rcells_len r HW.out.len])) hHeld ?_
  simp only [Act.put, List.setIfInBounds_toArray, List.set_cons_zero, List.set_cons_succ]
  refine wpAnyH_take (i := 12) (v := ?v12) (by simp; rfl) (by kernel_rfl) (by kernel_rfl) (by kernel_rfl) (fun _ _ _ h => h) (Or.inl ⟨by rfl, ?y12⟩) hHeld ?r12
  case y12 => intro w hSw; clear hSw; go_simp; with_reducible rfl
  simp only [Act.put, List.setIfInBounds_toArray, List.set_cons_zero, List.set_cons_succ]
  refine wpAnyH_take (i := 13) (v := ?v13) (by simp; rfl) (by kernel_rfl) (by kernel_rfl) (by kernel_rfl) (fun _ _ _ h => h) (Or.inl ⟨by rfl, ?y13⟩) hHeld ?r13
  case y13 => intro w hSw; clear hSw; go_simp; with_reducible rfl
  simp only [Act.put, List.setIfInBounds_toArray, List.set_cons_zero, List.set_cons_succ]
  refine wpAnyH_ready (rs := [0]) (by kernel_rfl) (by simp) ?_
  refine AllReadyH.cons (by simp; rfl) (fun Kc hKc => ?_) AllReadyH.nil
  go_simp
  refine (rput_any 87 1 w1.drew (by omega) (by omega) (by decide)).mono ?_
  rintro e w2 ⟨p2, c2, rfl, m2⟩
  have HB2 : Hid (Below w1.heap.size w1 w2) := below_undrew m2.below
  have HS2 : Hid (SIn w2 (.slice p2 1 c2) [87]) := m2.sin
  have HA2 : Hid (RAt 139 w2 w.heap.size r) := HA1.out.later HB2.out
  clear m2
  refine hKc.out _ _ HA2.out (fun hHeld => ?_)
  clear hKc Kc
  refine wpAnyH_ready (rs := [4]) (by kernel_rfl) (by simp) ?_
  refine AllReadyH.cons (by simp; rfl) (fun Kc hKc => ?_) AllReadyH.nil
  go_simp
  refine (rput_any r.kind 1 w2 k0 (by omega) (div1 _ k0 k1)).mono ?_
  rintro e w3 ⟨p3, c3, rfl, m3⟩
  have HB3 : Hid (Below w2.heap.size w2 w3) := m3.below
  have HS3 : Hid (SIn w3 (.slice p3 1 c3) [r.kind]) := by have := m3.sin; rw [dig1 r.kind k0 k1] at this; exact this
  have HA3 : Hid (RAt 139 w3 w.heap.size r) := HA2.out.later HB3.out
  clear m3
  refine hKc.out _ _ HA3.out (fun hHeld => ?_)
  clear hKc Kc
  refine wpAnyH_ready (rs := [5]) (by kernel_rfl) (by simp) ?_
  refine AllReadyH.cons (by simp; rfl) (fun Kc hKc => ?_) AllReadyH.nil
  go_simp
  refine (rput_any 0 2 w3 (by omega) (by omega) (by decide)).mono ?_
  rintro e w4 ⟨p4, c4, rfl, m4⟩
  have HB4 : Hid (Below w3.heap.size w3 w4) := m4.below
  have HS4 : Hid (SIn w4 (.slice p4 2 c4) [0, 0]) := m4.sin
  have HA4 : Hid (RAt 139 w4 w.heap.size r) := HA3.out.later HB4.out
  clear m4
  refine hKc.out _ _ HA4.out (fun hHeld => ?_)
  clear hKc Kc
  refine wpAnyH_ready (rs := [8]) (by kernel_rfl) (by simp) ?_
  refine AllReadyH.cons (by simp; rfl) (fun Kc hKc => ?_) AllReadyH.nil
  go_simp
  refine (rput_any r.pos 8 w4 HP.out.1 (by omega) (div8 _ HP.out.1 HP.out.2)).mono ?_
  rintro e w5 ⟨p5, c5, rfl, m5⟩
  have HB5 : Hid (Below w4.heap.size w4 w5) := m5.below
  have HS5 : Hid (SIn w5 (.slice p5 8 c5) (digits 8 r.pos)) := m5.sin
  have HA5 : Hid (RAt 139 w5 w.heap.size r) := HA4.out.later HB5.out
  clear m5
  refine hKc.out _ _ HA5.out (fun hHeld => ?_)
  clear hKc Kc
  refine wpAnyH_ready (rs := [10]) (by kernel_rfl) (by simp) ?_
  refine AllReadyH.cons (by simp; rfl) (fun Kc hKc => ?_) AllReadyH.nil
  go_simp
  refine (number_rec r HW.out.len HM.out w5).mono ?_
  rintro e w6 ⟨rfl, b6⟩
  have HB6 : Hid (Below w5.heap.size w5 w6) := b6
  have HA6 : Hid (RAt 139 w6 w.heap.size r) := HA5.out.later HB6.out
  clear b6
  refine hKc.out _ _ HA6.out (fun hHeld => ?_)
  clear hKc Kc
  refine wpAnyH_ready (rs := [11]) (by kernel_rfl) (by simp) ?_
  refine AllReadyH.cons (by simp; rfl) (fun Kc hKc => ?_) AllReadyH.nil
  go_simp
  refine (rput_any (numS r) 4 w6 HN.out.1 (by omega) (div4 _ HN.out.1 (by have := HN.out.2; omega))).mono ?_
  rintro e w7 ⟨p7, c7, rfl, m7⟩
  have HB7 : Hid (Below w6.heap.size w6 w7) := m7.below
  have HS7 : Hid (SIn w7 (.slice p7 4 c7) (digits 4 (numS r))) := m7.sin
  have HA7 : Hid (RAt 139 w7 w.heap.size r) := HA6.out.later HB7.out
  clear m7
  refine hKc.out _ _ HA7.out (fun hHeld => ?_)
  clear hKc Kc
  have B67 := HB7.out
  have B57 := below_then HB6.out B67
  have B47 := below_then HB5.out B57
  have B37 := below_then HB4.out B47
  have B27 := below_then HB3.out B37
  have B17 := below_then HB2.out B27
  have HSS : Hid (SIns w7 [.slice p2 1 c2, .slice p3 1 c3, .slice p4 2 c4, .slice p5 8 c5, .slice p7 4 c7, .slice (some ⟨w.heap.size, 3, none⟩) 32 32] [[87], [r.kind], [0, 0], digits 8 r.pos, digits 4 (numS r), r.val]) :=
    ⟨HS2.out.later B27, HS3.out.later B37, HS4.out.later B47, HS5.out.later B57, HS7.out, ⟨_, _, _, rfl, HA7.out.vin HW.out, Nat.le_refl _, fun e => by cases e⟩, trivial⟩
  have HF : Hid ([[87], [r.kind], [0, 0], digits 8 r.pos, digits 4 (numS r), r.val].flatten = head r) := by show _ = _; simp [head]
  have HFL : Hid ((head r).length = 48) := head_len r HW.out.len
  have HBW : Hid (Below w.heap.size w w7) := below_then HB1.out B17
  clear B67 B57 B47 B37 B27 B17 HB2 HB3 HB4 HB5 HB6 HB7 HS2 HS3 HS4 HS5 HS7 HA2 HA3 HA4 HA5 HA6 HB1 HA1
  refine wpAnyH_ready (rs := [14]) (by kernel_rfl) (by simp) ?_
  refine AllReadyH.cons (by simp; rfl) (fun Kc hKc => ?_) AllReadyH.nil
  go_simp
  refine hKc.out _ _ (HA7.out.later (below_alloc w7 _)) (fun hHeld => ?_)
  clear hKc Kc
  refine wpAnyH_ready (rs := [15]) (by kernel_rfl) (by simp) ?_
  refine AllReadyH.cons (by simp; rfl) (fun Kc hKc => ?_) AllReadyH.nil
  go_simp
  refine (join_new HSS.out 6 rfl (by rw [HF.out, HFL.out]; omega) (by omega)).mono ?_
  rintro e w8 ⟨p8, c8, rfl, m8⟩
  rw [HF.out, HFL.out] at m8
  rw [HF.out, HFL.out]
  have HA8 : Hid (RAt 139 w8 w.heap.size r) := HA7.out.later m8.below
  have HB8 : Hid (Below w.heap.size w w8) := below_then HBW.out m8.below
  have HR8 : Hid (BIn w8 p8 48 (head r)) := m8.read
  clear m8 HSS HF HFL HBW HA7
  refine hKc.out _ _ HA8.out (fun hHeld => ?_)
  clear hKc Kc
  refine wpAnyH_take (i := 16) (v := ?v16) (by simp; rfl) (by kernel_rfl) (by kernel_rfl) (by kernel_rfl) (fun _ _ _ h => h) (Or.inl ⟨by rfl, ?y16⟩) hHeld ?r16
  case y16 => intro w hSw; clear hSw; go_simp; with_reducible rfl
  simp only [Act.put, List.setIfInBounds_toArray, List.set_cons_zero, List.set_cons_succ]
  refine wpAnyH_done (by kernel_rfl) (NoPanic.normal ?_) _
  clear hHeld
  go_wp2_with fail
  refine (pad_ok p8 48 c8 (head r) 60 w8 (by omega) (by omega) HR8.out).mono ?_
  rintro e w9 ⟨v9, rfl, ho9, hb9⟩
  obtain ⟨p9, c9, rfl, m9⟩ := made_of ho9 ((head_bytes r HW.out HM.out).append (zs_bytes 12)) hb9
  have HS9 : Hid (SIn w9 (.slice p9 60 c9) (body r)) := m9.sin
  have HB9 : Hid (Below w.heap.size w w9) := below_then HB8.out hb9
  have HL9 : Hid ((body r).length = 60) := body_len r HW.out.len
  clear ho9 hb9 m9 HR8 HB8 HA8
  go_wp2_with fail
  refine (of_new p9 60 c9 (body r) HS9.out (by rw [HL9.out]; omega) (HT.out.later HB9.out)).mono ?_
  rintro e w10 ⟨rfl, b10⟩
  have HS10 : Hid (SIn w10 (.slice p9 60 c9) (body r)) := HS9.out.later b10
  have HB10 : Hid (Below w.heap.size w w10) := below_then HB9.out b10
  have hcl := crc_lt (body r) (body_bytes r HW.out HM.out)
  have HE : Hid (encS r = [body r, digits 4 ((crc (body r) : Nat) : Int)].flatten) := by show _ = _; simp [encS]
  have HEL : Hid ((encS r).length = 64) := encS_len r HW.out.len
  clear b10 HS9 HB9
  generalize crc (body r) = S at *
  go_wp2_with fail
  refine (rput_any (S : Int) 4 w10 (by omega) (by omega) (div4 _ (by omega) (by omega))).mono ?_
  rintro e w11 ⟨p11, c11, rfl, m11⟩
  have HSS : Hid (SIns w11 [.slice p9 60 c9, .slice p11 4 c11] [body r, digits 4 (S : Int)]) := ⟨HS10.out.later m11.below, m11.sin, trivial⟩
  have HB11 : Hid (Below w.heap.size w w11) := below_then HB10.out m11.below
  clear m11 HS10 HB10
  go_wp2_with fail
  refine (join_new HSS.out 2 rfl (by rw [← HE.out, HEL.out]; omega) (by omega)).mono ?_
  rintro e w12 ⟨p12, c12, rfl, m12⟩
  rw [← HE.out, HEL.out] at m12
  rw [← HE.out, HEL.out]
  have HM12 : Hid (Made w11 w12 p12 64 c12 (encS r)) := m12
  clear m12 HSS
  go_wp2_with fail
  go_ret2
  exact ⟨p12, c12, rfl, own_mono HM12.out.own HB11.out.size, HM12.out.read, HM12.out.le, HM12.out.nil, below_then HB11.out HM12.out.below⟩
theorem encode_any (r : Rec) (hw : r.Wf) (w : World) (ht : Half w) :
    Calls Tryz.prog 93 #[.agg (rcells r).toArray] w fun e w' => ∃ p n c, e = .returned (.tuple #[.slice p n c, .int .i64 (chk r)]) ∧ n = (encT r).length ∧ (may r = true → n = 64) ∧ Made w w' p n c (encT r) := by
  by_cases hm : may r = true
  · rw [encT_yes r hm, chk_yes r hm]
    refine (encode_good r hw hm w ht).mono ?_
    rintro e w' ⟨p, c, rfl, m⟩
    exact ⟨p, 64, c, rfl, (encS_len r hw.len).symm, fun _ => rfl, m⟩
  · rw [encT_no r hm, chk_no r hm]
    refine (encode_bad r hw.len hm w).mono ?_
    rintro e w' ⟨rfl, b⟩
    exact ⟨none, 0, 0, rfl, rfl, fun h => absurd h hm, World.ownsRow_nil _ _ _ _, BIn.empty, Nat.le_refl _, fun _ => rfl, b⟩
end Go.Proofs.YtdadpepfpiimgaaGreatDoor.R
namespace Go.Proofs.YtdadpepfpiimgaaGreatDoor.R
open Go.RowKit
set_option maxHeartbeats 400000 in
set_option maxRecDepth 100000 in
theorem equal_any (p q : Option Addr) (n c m d : Nat) (xs ys : List Int) (w : World) (hx : BIn w p n xs) (hy : BIn w q m ys) :
    Calls Tryz.prog 94 #[.slice p n c, .slice q m d] w fun e w' => e = .returned (.bool (decide (xs = ys))) ∧ w = w' := by
  have q1 := hx.str c
  have q2 := hy.str d
  have HE : Hid (_) := str_eq xs ys hx.byte hy.byte
  clear hx hy
  go_enter Tryz.func94, Tryz.ntmps94
  go_wp2
  go_ret
  refine ⟨?_, rfl⟩
  rw [← HE.out]
  rfl
section
variable {P : Program} {o : Oper} {a : Act} {w w' : World} {K : Act → World → Prop} {Q : Exit → Act → World → Prop}
theorem wp_alloc_is (ty : TypeId) (ho : o.op = .alloc ty) {v : Value} (hrun : (Instr.alloc ty true (.tuple #[])).run P w = .ok v w') (h : K (a.put o.dst v) w') : o.wp P a w K Q := by
  have e : (execOp a.eval o).run P w = .ok (.value v) w' := by unfold execOp; simp only [ho, Sem.run_bind, hrun, Result.andThen_ok, Sem.run_pure]
  unfold Oper.wp; rw [e]; exact h
theorem wp_store_is (ty : TypeId) {x y : Operand} (ho : o.op = .store ty x y) {p v : Value} (hx : a.eval x = p) (hy : a.eval y = v) (hrun : (Instr.storeAt ty p v).run P w = .ok () w') (h : K (a.put o.dst undef) w') : o.wp P a w K Q := by
  have e : (execOp a.eval o).run P w = .ok .skip w' := by unfold execOp; simp only [ho, hx, hy, Sem.run_bind, hrun, Result.andThen_ok, Sem.run_pure]
  unfold Oper.wp; rw [e]; exact h
theorem yields_build_is {ops : Array Oper} {S : World → Prop} (hw : Region.wanted o (yielded ops a.tmps) = true) (ty : TypeId) {ps : Array (Nat × Operand)} (ho : o.op = .build ty ps) {vs : List (Nat × Value)} {v : Value} (hx : ps.toList.map (fun (i, x) => (i, a.eval x)) = vs) (hrun : ∀ w, (Instr.build ty vs.toArray).run P w = .ok v w) : YieldsIf P ops S o v a :=
  .inl ⟨hw, fun w _ => by unfold execOp; simp only [ho]; rw [show ps.map (fun (i, x) => (i, a.eval x)) = vs.toArray by rw [← hx, ← Array.toList_map]]; simp only [Sem.run_bind, hrun w, Result.andThen_ok, Sem.run_pure]⟩
end
theorem RAt.setb {t : TypeId} {w : World} {g : Nat} {r : Rec} (h : RAt t w g r) (k : Int) : RAt t (w.setCell ⟨g, 2, none⟩ (.int .i64 k)) g ⟨r.kind, r.pos, k, r.val, r.images⟩ := by
  have := heap_setCell_same w g 2 _ t (.int .i64 k) h
  unfold RAt
  rw [this]
  simp [rcells]
theorem RAt.seti {t : TypeId} {w : World} {g : Nat} {r : Rec} (h : RAt t w g r) (hv : r.val.length = 32) (k : Int) : RAt t (w.setCell ⟨g, 35, none⟩ (.int .i64 k)) g ⟨r.kind, r.pos, r.block, r.val, k⟩ := by
  have := heap_setCell_same w g 35 _ t (.int .i64 k) h
  unfold RAt
  rw [this]
  have e : (rcells r).set 35 (.int .i64 k) = rcells ⟨r.kind, r.pos, r.block, r.val, k⟩ := by
    simp only [rcells, List.set_cons_succ]
    rw [List.set_append_right _ _ (by rw [U8_length, hv]; omega), U8_length, hv]
    rfl
  rw [List.setIfInBounds_toArray, e]
theorem splice_rec (r : Rec) (hv : r.val.length = 32) (v : List Int) (h : v.length = 32) : splice (rcells r) 3 (U8 v) = rcells ⟨r.kind, r.pos, r.block, v, r.images⟩ := by
  unfold splice
  rw [U8_length, h]
  simp only [rcells, List.take_succ_cons, List.take_zero, List.cons_append, List.nil_append, List.drop_succ_cons]
  rw [List.drop_append, U8_length, hv, List.drop_of_length_le (by rw [U8_length, hv]; omega)]
  rfl
theorem nums5 (xs : List Int) : nums xs [1, 1, 2, 8, 4] = [worth (xs.take 1), worth ((xs.drop 1).take 1), worth ((xs.drop 2).take 2), worth ((xs.drop 4).take 8), worth ((xs.drop 12).take 4)] := by
  simp [nums, List.drop_drop]
theorem worth_one (xs : List Int) (h : 1 < xs.length) : worth ((xs.drop 1).take 1) = xs.getD 1 0 := by
  match xs, h with
  | [_], h => simp at h
  | a :: b :: r, _ => simp [worth]
theorem parts_bd (xs : List Int) (hb : Bytes xs) (hl : xs.length = 64) : (0 ≤ xs.getD 1 0 ∧ xs.getD 1 0 < 256) ∧ (0 ≤ worth ((xs.drop 4).take 8) ∧ worth ((xs.drop 4).take 8) ≤ 18446744073709551615) ∧ (0 ≤ worth ((xs.drop 12).take 4) ∧ worth ((xs.drop 12).take 4) < 4294967296) := by
  have h1 : 0 ≤ xs.getD 1 0 ∧ xs.getD 1 0 < 256 := by
    rw [show xs.getD 1 0 = xs[1]'(by omega) by simp [List.getD, List.getElem?_eq_getElem (show 1 < xs.length by omega)]]
    exact hb.at 1 (by omega)
  have h2 := worth_bd ((xs.drop 4).take 8) ((hb.drop 4).take 8)
  have h3 := worth_bd ((xs.drop 12).take 4) ((hb.drop 12).take 4)
  rw [show ((xs.drop 4).take 8).length = 8 by simp; omega, show (256 : Int) ^ 8 = 18446744073709551616 by decide] at h2
  rw [show ((xs.drop 12).take 4).length = 4 by simp; omega, show (256 : Int) ^ 4 = 4294967296 by decide] at h3
  exact ⟨h1, ⟨h2.1, by omega⟩, h3⟩
set_option maxHeartbeats 4000000 in
set_option maxRecDepth 100000 in
theorem read_any (p : Option Addr) (c : Nat) (xs : List Int) (w : World) (hx : BIn w p 64 xs) (hc : 64 ≤ c) :
    Calls Tryz.prog 92 #[.slice p 64 c] w fun e w' => e = .returned (.agg (rcells (readS xs)).toArray) ∧ Below w.heap.size w w' := by
  obtain ⟨b, o, rfl, -⟩ := hx.cells (by omega)
  have HX : Hid (BIn w (some ⟨b, o, none⟩) 64 xs) := hx
  have A1 : Hid (_) := alloc31 w
  have R1 : Hid (RAt 139 (w.alloc (.cells (rcells rec0).toArray 139)) w.heap.size rec0) := RAt.new 139 w rec0
  have B1 : Hid (Below w.heap.size w (w.alloc (.cells (rcells rec0).toArray 139))) := below_alloc w _
  clear hx
  go_enter Tryz.func92, Tryz.ntmps92
  go_wp2_with (refine wpList_alloc_is (by rfl) 139 rfl A1.out ?_)
  have HSZ : Hid ((w.alloc (.cells (rcells rec0).toArray 139)).heap.size = w.heap.size + 1) := by show _ = _; simp
  generalize w.alloc (.cells (rcells rec0).toArray 139) = W1 at *
  clear A1
  rw [← HSZ.out]
  have HZ : Hid (ZIn (W1.alloc (.cells #[.int .i64 1, .int .i64 1, .int .i64 2, .int .i64 8, .int .i64 4] 3)) W1.heap.size 0 5 [1, 1, 2, 8, 4]) := by
    refine ⟨rfl, fun i h => ?_, fun i h => ?_⟩
    · match i, h with
      | 0, _ => exact ⟨by simp, by simp⟩
      | 1, _ => exact ⟨by simp, by simp⟩
      | 2, _ => exact ⟨by simp, by simp⟩
      | 3, _ => exact ⟨by simp, by simp⟩
      | 4, _ => exact ⟨by simp, by simp⟩
    · rw [Nat.zero_add, cell_of_row _ W1.heap.size i _ 3 (0, 0) (heap_alloc_new W1 _)]
      match i, h with
      | 0, _ => simp
      | 1, _ => simp
      | 2, _ => simp
      | 3, _ => simp
      | 4, _ => simp
  have HX2 : Hid (BIn (W1.alloc (.cells #[.int .i64 1, .int .i64 1, .int .i64 2, .int .i64 8, .int .i64 4] 3)) (some ⟨b, o, none⟩) 64 xs) := (HX.out.later B1.out).later (below_alloc W1 _)
  go_wp2_with fail
  refine (fields_pos b o 64 c W1.heap.size 0 5 5 xs [1, 1, 2, 8, 4] _ HX2.out HZ.out hc (by omega) (by omega) (by decide) (by omega)).mono ?_
  rintro e w2 ⟨v1, v2, rfl, ho1, ho2, hb2⟩
  have HB2 : Hid (Below W1.heap.size W1 w2) := below_of_alloc hb2
  obtain ⟨p1, c1, rfl, hi1, -⟩ := own_in64 ho1
  obtain ⟨p2, c2, rfl, hi2, -, -, -⟩ := own_in (n := 48) (xs := xs.drop 16) ho2 (HX.out.byte.drop 16)
  rw [nums5, worth_one xs (by rw [HX.out.len]; omega)] at hi1
  obtain ⟨g1, o1, rfl, hcs⟩ := hi1.cells (by omega)
  have n1 := hcs 1 (by simp)
  have n3 := hcs 3 (by simp)
  have n4 := hcs 4 (by simp)
  simp only [List.getElem_cons_succ, List.getElem_cons_zero] at n1 n3 n4
  have HR2 : Hid (RAt 139 w2 w.heap.size rec0) := R1.out.later HB2.out
  have HI2 : Hid (BIn w2 p2 32 ((xs.drop 16).take 32)) := hi2.take 32 (by omega)
  have HRS : Hid (readS xs = ⟨xs.getD 1 0, worth ((xs.drop 4).take 8), if xs.getD 1 0 = 1 then worth ((xs.drop 12).take 4) else 0, (xs.drop 16).take 32, if xs.getD 1 0 = 1 then 0 else worth ((xs.drop 12).take 4)⟩) := rfl
  have HBD := parts_bd xs HX.out.byte HX.out.len
  have HVL : Hid (((xs.drop 16).take 32).length = 32) := by show _ = _; simp [HX.out.len]
  have HB0 : Hid (Below w.heap.size w w2) := below_then B1.out HB2.out
  have hlt : g1 < w2.heap.size := World.block_lt_of_cell? w2 _ n1
  clear ho1 ho2 hb2 hi1 hi2 hcs HZ HX2 HB2 R1 B1
  obtain ⟨V, hV⟩ : ∃ V, V = (xs.drop 16).take 32 := ⟨_, rfl⟩
  rw [← hV] at HVL HI2 HRS
  clear hV
  generalize xs.getD 1 0 = k at *
  generalize worth ((xs.drop 4).take 8) = u at *
  generalize worth ((xs.drop 12).take 4) = m at *
  obtain ⟨⟨k0, k1⟩, ⟨u0, u1⟩, m0, m1⟩ := HBD
  have BK : Hid (_) := fun w => build31 w #[(0, .int .i64 k), (1, .int .u64 u)] ⟨k, u, 0, zs 32, 0⟩ ((fill_k rec0 rec0_len k _).trans (fill_p ⟨k, 0, 0, zs 32, 0⟩ (zs_len 32) u []))
  go_wp2_with fail
  have kw : IntKind.i64.wrap k = k := by rw [IntKind.wrap_i64]; omega
  refine wp_region_noPanic ?_
  refine wp_region_held_drew (S := fun w' => w'.cell? ⟨g1, o1 + 1, none⟩ = some (.int .u64 k) ∧ w'.cell? ⟨g1, o1 + 3, none⟩ = some (.int .u64 u)) (by kernel_rfl) ⟨n1, n3⟩ (fun hHeld => ?_)
  refine wpAnyH_take (i := 0) (v := ?v0) (by simp; rfl) (by kernel_rfl) (by kernel_rfl) (by kernel_rfl) (fun _ _ _ h => h) (Or.inl ⟨by rfl, ?y0⟩) hHeld ?r0
  case y0 => intro w hSw; obtain ⟨z1, z3⟩ := hSw; go_simp; with_reducible rfl
  simp only [Act.put, List.setIfInBounds_toArray, List.set_cons_zero, List.set_cons_succ]
  refine wpAnyH_take (i := 1) (v := ?v1) (by simp; rfl) (by kernel_rfl) (by kernel_rfl) (by kernel_rfl) (fun _ _ _ h => h) (Or.inl ⟨by rfl, ?y1⟩) hHeld ?r1
  case y1 => intro w hSw; obtain ⟨z1, z3⟩ := hSw; go_simp; with_reducible rfl
  simp only [Act.put, List.setIfInBounds_toArray, List.set_cons_zero, List.set_cons_succ]
  refine wpAnyH_take (i := 2) (v := ?v2) (by simp; rfl) (by kernel_rfl) (by kernel_rfl) (by kernel_rfl) (fun _ _ _ h => h) (Or.inl ⟨by rfl, ?y2⟩) hHeld ?r2
  case y2 => intro w hSw; obtain ⟨z1, z3⟩ := hSw; go_simp; with_reducible rfl
  simp only [Act.put, List.setIfInBounds_toArray, List.set_cons_zero, List.set_cons_succ]
  refine wpAnyH_take (i := 3) (v := ?v3) (by simp; rfl) (by kernel_rfl) (by kernel_rfl) (by kernel_rfl) (fun _ _ _ h => h) (Or.inl ⟨by rfl, ?y3⟩) hHeld ?r3
  case y3 => intro w hSw; obtain ⟨z1, z3⟩ := hSw; go_simp; with_reducible rfl
  simp only [Act.put, List.setIfInBounds_toArray, List.set_cons_zero, List.set_cons_succ]
  refine wpAnyH_take (i := 4) (v := ?v4) (by simp; rfl) (by kernel_rfl) (by kernel_rfl) (by kernel_rfl) (fun _ _ _ h => h) (Or.inl ⟨by rfl, ?y4⟩) hHeld ?r4
  case y4 => intro w hSw; obtain ⟨z1, z3⟩ := hSw; go_simp; with_reducible rfl
  simp only [Act.put, List.setIfInBounds_toArray, List.set_cons_zero, List.set_cons_succ]
  refine wpAnyH_take (i := 5) (v := ?v5) (by simp; rfl) (by kernel_rfl) (by kernel_rfl) (by kernel_rfl) (fun _ _ _ h => h) (Or.inl ⟨by rfl, ?y5⟩) hHeld ?r5
  case y5 => intro w hSw; obtain ⟨z1, z3⟩ := hSw; go_simp; with_reducible rfl
  simp only [Act.put, List.setIfInBounds_toArray, List.set_cons_zero, List.set_cons_succ]
  refine wpAnyH_take (i := 6) (v := ?v6) (by simp; rfl) (by kernel_rfl) (by kernel_rfl) (by kernel_rfl) (fun _ _ _ h => h) (Or.inl ⟨by rfl, ?y6⟩) hHeld ?r6
  case y6 => intro w hSw; obtain ⟨z1, z3⟩ := hSw; go_simp; with_reducible rfl
  simp only [Act.put, List.setIfInBounds_toArray, List.set_cons_zero, List.set_cons_succ]
  refine wpAnyH_take (i := 7) (v := _) (by simp; rfl) (by kernel_rfl) (by kernel_rfl) (by kernel_rfl) (fun _ _ _ h => h) (yields_build_is (vs := [(0, .int .i64 k), (1, .int .u64 u)]) (by rfl) 139 rfl (by rfl) BK.out) hHeld ?_
  simp only [Act.put, List.setIfInBounds_toArray, List.set_cons_zero, List.set_cons_succ]
  refine wpAnyH_ready (rs := [8]) (by kernel_rfl) (by simp) ?_
  refine AllReadyH.cons (by simp; rfl) (fun Kc hKc => ?_) AllReadyH.nil
  rw [if_pos (by rfl)]
  refine wp_alloc_is 139 rfl (alloc31 w2.drew) ?_
  have ba : Below w2.heap.size w2 (w2.drew.alloc (.cells (rcells rec0).toArray 139)) := below_undrew (below_alloc w2.drew _)
  refine hKc.out _ _ ⟨(ba.cell (p := ⟨g1, o1 + 1, none⟩) hlt).trans n1, (ba.cell (p := ⟨g1, o1 + 3, none⟩) hlt).trans n3⟩ (fun hHeld => ?_)
  clear hKc Kc ba
  simp only [Act.put, List.setIfInBounds_toArray, List.set_cons_zero, List.set_cons_succ]
  refine wpAnyH_ready (rs := [9]) (by kernel_rfl) (by simp) ?_
  refine AllReadyH.cons (by simp; rfl) (fun Kc hKc => ?_) AllReadyH.nil
  rw [if_pos (by rfl)]
  refine wp_store_is 139 rfl rfl rfl (store_new size31 w2.drew ⟨k, u, 0, zs 32, 0⟩ (zs_len 32)) ?_
  have ba : Below w2.heap.size w2 (w2.drew.alloc (.cells (rcells ⟨k, u, 0, zs 32, 0⟩).toArray 139)) := below_undrew (below_alloc w2.drew _)
  refine hKc.out _ _ ⟨(ba.cell (p := ⟨g1, o1 + 1, none⟩) hlt).trans n1, (ba.cell (p := ⟨g1, o1 + 3, none⟩) hlt).trans n3⟩ (fun hHeld => ?_)
  clear hKc Kc hHeld
  refine wpAnyH_done (by kernel_rfl) (NoPanic.normal ?_) _
  simp only [Act.put]
  have HR3 : Hid (RAt 139 (w2.drew.alloc (.cells (rcells ⟨k, u, 0, zs 32, 0⟩).toArray 139)) w2.heap.size ⟨k, u, 0, zs 32, 0⟩) := RAt.new 139 w2.drew _
  have HB3 : Hid (Below w2.heap.size w2 (w2.drew.alloc (.cells (rcells ⟨k, u, 0, zs 32, 0⟩).toArray 139))) := ba
  have hs2 : (w2.drew).heap.size = w2.heap.size := rfl
  simp only [hs2]
  clear ba hs2
  generalize w2.drew.alloc (.cells (rcells ⟨k, u, 0, zs 32, 0⟩).toArray 139) = w3 at *
  have HN : Hid ((U8 V).length = Nat.min 48 32) := by show _ = _; rw [U8_length, HVL.out]; rfl
  have HP : Hid (0 < (U8 V).length → some (⟨w2.heap.size, 3, none⟩ : Addr) = some ⟨w2.heap.size, 3, none⟩ ∧ ∃ ad, p2 = some ad ∧ ∀ j v, (U8 V)[j]? = some v → w3.cell? (ad.add j) = some v) := by
    intro _
    have h48 := HI2.out.later HB3.out
    obtain ⟨b', o', e, -⟩ := h48.cells (by omega)
    refine ⟨rfl, ⟨b', o', none⟩, e, ?_⟩
    rw [e] at h48
    exact h48.news
  have HF : Hid (3 + (U8 V).length ≤ (rcells ⟨k, u, 0, zs 32, 0⟩).length) := by show _ ≤ _; rw [U8_length, HVL.out, rcells_len _ (zs_len 32)]; omega
  have HSP : Hid (splice (rcells ⟨k, u, 0, zs 32, 0⟩) 3 (U8 V) = rcells ⟨k, u, 0, V, 0⟩) := splice_rec _ (zs_len 32) _ HVL.out
  go_wp2_with (refine wpList_copy_splice rfl (.tmp 23) (.tmp 24) 27 27 rfl 5 Tryz.underlying27 size5 (some ⟨w2.heap.size, 3, none⟩) p2 32 32 48 c2 rfl rfl w2.heap.size 3 (rcells ⟨k, u, 0, zs 32, 0⟩) 139 HR3.out (U8 V) HN.out HP.out HF.out (ones_u8 _) w2.heap.size w2 HB3.out (Nat.le_refl _) ?_)
  intro w4 hg4 hb4
  have HR4 : Hid (RAt 139 w4 w2.heap.size ⟨k, u, 0, V, 0⟩) := by
    have := hg4.out
    rw [HSP.out] at this
    exact this
  have HB4 : Hid (Below w2.heap.size w2 w4) := hb4
  have n4' := (hb4.cell (p := ⟨g1, o1 + 4, none⟩) hlt).trans n4
  have c0 := HR4.out.c0
  have c2' := HR4.out.c2
  have c35 := HR4.out.c35 HVL.out
  have f2 := frozen_of_row w4 w2.heap.size 2 _ 139 HR4.out
  have f35 := frozen_of_row w4 w2.heap.size 35 _ 139 HR4.out
  have HRB : Hid (RAt 139 w4 w.heap.size rec0) := HR2.out.later hb4
  have HNE : Hid (w.heap.size ≠ w2.heap.size) := by have := HR2.out.lt; show _ ≠ _; omega
  clear hg4 hb4 HN HP HF HSP HR3 HB3 n1 n3 n4 HI2 HX BK kw HR2
  have mw : IntKind.i64.wrap m = m := by rw [IntKind.wrap_i64]; omega
  by_cases hk : k = 1
  · subst hk
    have HR5 : Hid (RAt 139 (w4.setCell ⟨w2.heap.size, 2, none⟩ (.int .i64 m)) w2.heap.size ⟨1, u, m, V, 0⟩) := HR4.out.setb m
    have HRB5 : Hid (RAt 139 (w4.setCell ⟨w2.heap.size, 2, none⟩ (.int .i64 m)) w.heap.size rec0) := (heap_setCell_other w4 ⟨w2.heap.size, 2, none⟩ w.heap.size _ HNE.out).trans HRB.out
    have HB5 : Hid (Below w.heap.size w (w4.setCell ⟨w2.heap.size, 2, none⟩ (.int .i64 m))) := (below_then HB0.out HB4.out).setCell (by have := HB0.out.size; exact this) _
    have HE : Hid (readS xs = ⟨1, u, m, V, 0⟩) := by show _ = _; rw [HRS.out, if_pos rfl, if_pos rfl]
    have L6 : Hid (_) := HR5.out.load31 HVL.out
    have ST : Hid (_) := HRB5.out.store (s := ⟨1, u, m, V, 0⟩) size31 rec0_len HVL.out
    have HF : Hid (RAt 139 ((w4.setCell ⟨w2.heap.size, 2, none⟩ (.int .i64 m)).setRow w.heap.size (rcells ⟨1, u, m, V, 0⟩).toArray) w.heap.size ⟨1, u, m, V, 0⟩ ∧ Below w.heap.size w ((w4.setCell ⟨w2.heap.size, 2, none⟩ (.int .i64 m)).setRow w.heap.size (rcells ⟨1, u, m, V, 0⟩).toArray)) := ⟨HRB5.out.stored _, below_setRow HB5.out (Nat.le_refl _) _⟩
    go_wp2_with (first | (refine wpList_load_is (by rfl) 139 rfl rfl L6.out ?_) | (refine wpList_store_is (by rfl) 139 rfl rfl rfl ST.out ?_))
    rw [HE.out]
    exact bodyPost_ret (results_cell1 Tryz.results92 _ _ w.heap.size 139 _ _ (by rfl) HF.out.1 HVL.out Tryz.underlying139 rfl size31) rfl ⟨rfl, HF.out.2⟩
  · have HR5 : Hid (RAt 139 (w4.setCell ⟨w2.heap.size, 35, none⟩ (.int .i64 m)) w2.heap.size ⟨k, u, 0, V, m⟩) := HR4.out.seti HVL.out m
    have HRB5 : Hid (RAt 139 (w4.setCell ⟨w2.heap.size, 35, none⟩ (.int .i64 m)) w.heap.size rec0) := (heap_setCell_other w4 ⟨w2.heap.size, 35, none⟩ w.heap.size _ HNE.out).trans HRB.out
    have HB5 : Hid (Below w.heap.size w (w4.setCell ⟨w2.heap.size, 35, none⟩ (.int .i64 m))) := (below_then HB0.out HB4.out).setCell (by have := HB0.out.size; exact this) _
    have HE : Hid (readS xs = ⟨k, u, 0, V, m⟩) := by show _ = _; rw [HRS.out, if_neg hk, if_neg hk]
    have L6 : Hid (_) := HR5.out.load31 HVL.out
    have ST : Hid (_) := HRB5.out.store (s := ⟨k, u, 0, V, m⟩) size31 rec0_len HVL.out
    have HF : Hid (RAt 139 ((w4.setCell ⟨w2.heap.size, 35, none⟩ (.int .i64 m)).setRow w.heap.size (rcells ⟨k, u, 0, V, m⟩).toArray) w.heap.size ⟨k, u, 0, V, m⟩ ∧ Below w.heap.size w ((w4.setCell ⟨w2.heap.size, 35, none⟩ (.int .i64 m)).setRow w.heap.size (rcells ⟨k, u, 0, V, m⟩).toArray)) := ⟨HRB5.out.stored _, below_setRow HB5.out (Nat.le_refl _) _⟩
    go_wp2_with (first | (refine wpList_load_is (by rfl) 139 rfl rfl L6.out ?_) | (refine wpList_store_is (by rfl) 139 rfl rfl rfl ST.out ?_))
    rw [HE.out]
    exact bodyPost_ret (results_cell1 Tryz.results92 _ _ w.heap.size 139 _ _ (by rfl) HF.out.1 HVL.out Tryz.underlying139 rfl size31) rfl ⟨rfl, HF.out.2⟩
theorem fill_none : Instr.fill (pl.toArray[·]?) (rcells rec0).toArray (#[] : Array (Nat × Value)).toList = some (rcells rec0).toArray := rfl
set_option maxHeartbeats 1000000 in
set_option maxRecDepth 100000 in
theorem decode_len (p : Option Addr) (n c : Nat) (w : World) (hn : n ≠ 64) :
    Calls Tryz.prog 54 #[.slice p n c] w fun e w' => e = .returned (.tuple #[.agg (rcells rec0).toArray, .int .i64 2]) ∧ Below w.heap.size w w' := by
  have A1 : Hid (_) := alloc31 w
  have R1 : Hid (RAt 139 (w.alloc (.cells (rcells rec0).toArray 139)) w.heap.size rec0) := RAt.new 139 w rec0
  have B1 : Hid (_) := build31 (w.alloc (.cells (rcells rec0).toArray 139)) #[] rec0 fill_none
  have S1 : Hid (_) := store_new size31 w rec0 rec0_len
  have hn' : (((n : Nat) : Int) != 64) = true := by simp; omega
  go_enter Tryz.func54, Tryz.ntmps54
  go_wp2_with (first | (refine wpList_alloc_is (by rfl) 139 rfl A1.out ?_) | (refine wpList_build_is (vs := []) (by rfl) 139 rfl (by rfl) B1.out ?_) | (refine wpList_store_is (by rfl) 139 rfl rfl rfl S1.out ?_))
  exact bodyPost_ret (results_rec Tryz.results54 _ _ w.heap.size 139 _ _ (by rfl) R1.out rec0_len Tryz.underlying139 rfl size31) rfl ⟨rfl, below_alloc w _⟩
set_option maxHeartbeats 2000000 in
set_option maxRecDepth 100000 in
theorem decode_64 (p : Option Addr) (c : Nat) (xs : List Int) (w : World) (hx : BIn w p 64 xs) (hc : 64 ≤ c) (ht : Half w) :
    Calls Tryz.prog 54 #[.slice p 64 c] w fun e w' => e = .returned (.tuple #[.agg (rcells (decS xs).1).toArray, .int .i64 (decS xs).2]) ∧ Below w.heap.size w w' := by
  have A1 : Hid (_) := alloc31 w
  have R1 : Hid (RAt 139 (w.alloc (.cells (rcells rec0).toArray 139)) w.heap.size rec0) := RAt.new 139 w rec0
  have HX : Hid (BIn (w.alloc (.cells (rcells rec0).toArray 139)) p 64 xs) := hx.later (below_alloc w _)
  have HT : Hid (Half w) := ht
  have HW : Hid ((readS xs).Wf) := readS_wf xs hx.byte hx.len
  have HL : Hid (xs.length = 64) := hx.len
  clear hx ht
  go_enter Tryz.func54, Tryz.ntmps54
  go_wp2_with (refine wpList_alloc_is (by rfl) 139 rfl A1.out ?_)
  refine (read_any p c xs _ HX.out hc).mono ?_
  rintro e w1 ⟨rfl, b1⟩
  have R2 : Hid (RAt 139 w1 w.heap.size rec0) := R1.out.later b1
  have B2 : Hid (Below w.heap.size w w1) := below_of_alloc b1
  have X2 : Hid (BIn w1 p 64 xs) := HX.out.later b1
  clear b1 R1 HX A1
  obtain ⟨r, hr⟩ : ∃ r, r = readS xs := ⟨_, rfl⟩
  have HRR : Hid (r = readS xs) := hr
  rw [← hr] at HW ⊢
  clear hr
  have A2 : Hid (_) := alloc31 w1
  have S2 : Hid (_) := store_new size31 w1 r HW.out.len
  have R3 : Hid (RAt 139 (w1.alloc (.cells (rcells r).toArray 139)) w1.heap.size r) := RAt.new 139 w1 r
  have L3 : Hid (_) := R3.out.load31 HW.out.len
  go_wp2_with (first | (refine wpList_alloc_is (by rfl) 139 rfl A2.out ?_) | (refine wpList_store_is (by rfl) 139 rfl rfl rfl S2.out ?_) | (refine wpList_load_is (by rfl) 139 rfl rfl L3.out ?_))
  have B3 : Below w1.heap.size w1 (w1.alloc (.cells (rcells r).toArray 139)) := below_alloc w1 _
  refine (encode_any r HW.out _ (HT.out.later (below_then B2.out B3))).mono ?_
  rintro e w2 ⟨p2, n2, c2, rfl, hn2, -, m2⟩
  have B4 := below_then B3 m2.below
  have R4 : Hid (RAt 139 w2 w1.heap.size r) := R3.out.later m2.below
  have R5 : Hid (RAt 139 w2 w.heap.size rec0) := R2.out.later B4
  have HB : Hid (Below w.heap.size w w2) := below_then B2.out B4
  have X4 : Hid (BIn w2 p 64 xs) := X2.out.later B4
  have E4 : Hid (BIn w2 p2 n2 (encT r)) := m2.read
  have HNE : Hid (w.heap.size ≠ w1.heap.size) := by have := R2.out.lt; show _ ≠ _; omega
  clear m2 B3 B4 R3 L3 S2 A2 R2 B2 X2 hn2
  have L4 : Hid (_) := R4.out.load31 HW.out.len
  have ST : Hid (_) := R5.out.store (s := r) size31 rec0_len HW.out.len
  have SZ : Hid (_) := R5.out.store (s := rec0) size31 rec0_len rec0_len
  have BZ : Hid (_) := build31 w2 #[] rec0 fill_none
  have F1 : Hid (RAt 139 (w2.setRow w.heap.size (rcells r).toArray) w.heap.size r ∧ Below w.heap.size w (w2.setRow w.heap.size (rcells r).toArray)) := ⟨R5.out.stored _, below_setRow HB.out (Nat.le_refl _) _⟩
  have F0 : Hid (RAt 139 (w2.setRow w.heap.size (rcells rec0).toArray) w.heap.size rec0 ∧ Below w.heap.size w (w2.setRow w.heap.size (rcells rec0).toArray)) := ⟨R5.out.stored _, below_setRow HB.out (Nat.le_refl _) _⟩
  by_cases hm : may r = true
  · rw [chk_yes r hm]
    by_cases he : encS r = xs
    · have hq : decide (encT r = xs) = true := by rw [encT_yes r hm, he]; simp
      have HD : Hid (decS xs = (r, 0)) := by
        show _ = _
        rw [decS_ok xs HL.out (by unfold goodB; rw [← HRR.out, hm, he]; simp), HRR.out]
      clear he hm
      go_wp2_with fail
      refine (equal_any p2 p n2 c2 64 c (encT r) xs w2 E4.out X4.out).mono ?_
      rintro e w3 ⟨rfl, rfl⟩
      go_wp2_with (first | (refine wpList_store_is (by rfl) 139 rfl rfl rfl ST.out ?_) | (refine wpList_load_is (by rfl) 139 rfl rfl L4.out ?_))
      rw [HD.out]
      exact bodyPost_ret (results_rec Tryz.results54 _ _ w.heap.size 139 _ _ (by rfl) F1.out.1 HW.out.len Tryz.underlying139 rfl size31) rfl ⟨rfl, F1.out.2⟩
    · have hq : decide (encT r = xs) = false := by rw [encT_yes r hm]; simp [he]
      have HD : Hid (decS xs = (rec0, 60)) := decS_bad xs HL.out (by unfold goodB; rw [← HRR.out, hm]; simp [he])
      clear he hm
      go_wp2_with fail
      refine (equal_any p2 p n2 c2 64 c (encT r) xs w2 E4.out X4.out).mono ?_
      rintro e w3 ⟨rfl, rfl⟩
      go_wp2_with (first | (refine wpList_store_is (by rfl) 139 rfl rfl rfl SZ.out ?_) | (refine wpList_build_is (vs := []) (by rfl) 139 rfl (by rfl) BZ.out ?_))
      rw [HD.out]
      exact bodyPost_ret (results_rec Tryz.results54 _ _ w.heap.size 139 _ _ (by rfl) F0.out.1 rec0_len Tryz.underlying139 rfl size31) rfl ⟨rfl, F0.out.2⟩
  · rw [chk_no r hm]
    have HD : Hid (decS xs = (rec0, 60)) := decS_bad xs HL.out (by unfold goodB; rw [← HRR.out]; simp [hm])
    clear hm
    go_wp2_with (first | (refine wpList_store_is (by rfl) 139 rfl rfl rfl SZ.out ?_) | (refine wpList_build_is (vs := []) (by rfl) 139 rfl (by rfl) BZ.out ?_))
    rw [HD.out]
    exact bodyPost_ret (results_rec Tryz.results54 _ _ w.heap.size 139 _ _ (by rfl) F0.out.1 rec0_len Tryz.underlying139 rfl size31) rfl ⟨rfl, F0.out.2⟩
theorem decode_any (p : Option Addr) (n c : Nat) (xs : List Int) (w : World) (hx : BIn w p n xs) (hc : n ≤ c) (ht : Half w) :
    Calls Tryz.prog 54 #[.slice p n c] w fun e w' => e = .returned (.tuple #[.agg (rcells (decS xs).1).toArray, .int .i64 (decS xs).2]) ∧ Below w.heap.size w w' := by
  by_cases h : n = 64
  · subst h
    exact decode_64 p c xs w hx hc ht
  · rw [decS_len xs (by rw [hx.len]; exact h)]
    exact decode_len p n c w h
end Go.Proofs.YtdadpepfpiimgaaGreatDoor.R
