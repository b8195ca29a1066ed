/-
  Layer 10: images compared; slices of two parts built.
-/
import Derived.Test.YtefnkjajjidfaaaDoorEa
import Derived.Test.YtefnkjajjidfaaaDoorEd
import Derived.Test.YtefnkjajjidfaaaDoorEh
namespace Go.Proofs.YtefnkjajjidfaaaDoor
open Go.RowKit


theorem fldsI : Tryd.prog.underlying 32 = some (.struct (Tryd.prog.fieldsOf 32)) := by kernel_rfl
theorem heldI : Tryd.prog.stoodInHeld 32 = false := by kernel_rfl
theorem eqgI : Tryd.prog.eqGuardType Tryd.prog.depth 32 = false := by kernel_rfl
def flI : List (Bool × TypeId × Nat) := [(true, 3, 0), (true, 30, 1)]
theorem flI_is : fl Tryd.prog 32 = flI := by kernel_rfl
theorem sizeOfV (w : World) : (sizeOf 30).run Tryd.prog w = .ok 32 w := by
  cases hi : Tryd.prog.info? 30 with
  | none => have := sizeV; simp [hi] at this
  | some i =>
    have h := sizeV
    simp only [hi, Option.map_some, Option.some.injEq] at h
    simp [sizeOf, typeInfo, hi, h]
set_option maxRecDepth 100000 in
theorem partV (w : World) (i : Im) (h : i.v.length = 32) : (part 30 (icells i).toArray 1).run Tryd.prog w = .ok (.agg (U8 i.v).toArray) w := by
  have hagg : (isAgg 30).run Tryd.prog w = .ok true w := by
    unfold isAgg
    rw [Sem.run_bind, run_underlying Tryd.underlying30 w]
    rfl
  have hx : (icells i).toArray.extract 1 (1 + 32) = (U8 i.v).toArray := by
    rw [List.extract_toArray]
    congr 1
    show ((icells i).drop 1).take (1 + 32 - 1) = _
    rw [show (icells i).drop 1 = U8 i.v from rfl, List.take_of_length_le (by rw [U8_length, h]; omega)]
  simp only [part, Sem.run_bind, hagg, Result.andThen_ok, if_true, sizeOfV, Sem.run_pure, hx]
def imB (i j : Im) : Bool := i.b == j.b && decide (i.v = j.v)
theorem imB_iff (i j : Im) : imB i j = true ↔ i = j := by
  obtain ⟨a, b⟩ := i; obtain ⟨c, d⟩ := j
  simp [imB]
theorem equalI (w : World) (d : Nat) (i j : Im) (hi : i.v.length = 32) (hj : j.v.length = 32) : (Op.equalIn (d + 3) 32 (.agg (icells i).toArray) (.agg (icells j).toArray)).run Tryd.prog w = .ok (imB i j) w := by
  rw [run_equalIn_struct w (d + 2) 32 _ _ fldsI heldI, eqParts_of, show (Tryd.prog.fieldsOf 32).toList.map (fun f => (decide (f.name ≠ "_"), f.type, f.offset)) = flI from flI_is]
  unfold flI imB
  rw [eqParts_cons w _ _ _ 3 0 _ (part3 w (icells i) 0 i.b rfl) (part3 w (icells j) 0 j.b rfl) (run_equalIn_int w (d + 1) 3 .i64 .i64 _ _ Tryd.underlying3),
    eqParts_cons w _ _ _ 30 1 _ (partV w i hi) (partV w j hj) (equalV w d i.v j.v hi hj)]
  have e0 : (eqParts (d + 2) (icells i).toArray (icells j).toArray []).run Tryd.prog w = .ok true w := by rw [eqParts]; exact Sem.run_pure ..
  rw [e0]
  cases (i.b == j.b) <;> cases decide (i.v = j.v) <;> simp
theorem eqlI (w : World) (i j : Im) (hi : i.v.length = 32) (hj : j.v.length = 32) : (binOp .eql 32 (.agg (icells i).toArray) (.agg (icells j).toArray)).run Tryd.prog w = .ok (.bool (imB i j)) w := by
  rw [run_eql_struct, equalI w 9997 i j hi hj]; rfl
theorem neqI (w : World) (i j : Im) (hi : i.v.length = 32) (hj : j.v.length = 32) : (binOp .neq 32 (.agg (icells i).toArray) (.agg (icells j).toArray)).run Tryd.prog w = .ok (.bool (!imB i j)) w := by
  rw [run_neq_struct, equalI w 9997 i j hi hj]; rfl
theorem fill_at {f : Nat → Option (Nat × Nat)} {i off : Nat} {cs : List Value} (hf : f i = some (off, cs.length)) {L : List Value} (hl : off + cs.length ≤ L.length) (rest : List (Nat × Value)) :
    Instr.fill f L.toArray ((i, .agg cs.toArray) :: rest) = Instr.fill f (L.take off ++ cs ++ L.drop (off + cs.length)).toArray rest := by
  have a0 := part_fill off cs L hl
  have a1 : cs.toArray.zipIdx.foldl (fun cs x => match x with | (c, j) => cs.setIfInBounds (off + j) c) L.toArray = (L.take off ++ cs ++ L.drop (off + cs.length)).toArray := a0
  simp only [Instr.fill, hf, Value.cells, List.size_toArray]
  rw [if_neg (by simp; omega), a1]
theorem fill_two' {sz : Nat} {cs ds : List Value} (hc : cs.length = sz) (hd : ds.length = sz) (B : Array Value) (hB : B.size = 2 * sz) : Instr.fill (fun i => some (i * sz, sz)) B [(0, .agg cs.toArray), (1, .agg ds.toArray)] = some (cs ++ ds).toArray := by
  obtain ⟨L⟩ := B
  have hL : L.length = 2 * sz := hB
  rw [fill_at (off := 0) (cs := cs) (by simp [hc]) (by omega), fill_at (off := sz) (cs := ds) (by simp [hd]) (by simp; omega)]
  show some _ = some _
  congr 2
  rw [List.take_zero, List.nil_append, Nat.zero_add, hc, hd]
  rw [List.take_append_of_le_length (by omega), List.take_of_length_le (by omega), List.drop_of_length_le (by simp; omega), List.append_nil]
theorem build_im2 (w : World) (i j : Im) (hi' : i.v.length = 32) (hj' : j.v.length = 32) : (Instr.buildSlice 26 2 #[(0, .agg (icells i).toArray), (1, .agg (icells j).toArray)]).run Tryd.prog w = .ok (.slice (some ⟨w.heap.size, 0, none⟩) 2 2) (w.alloc (.cells (IC [i, j]).toArray 32)) := by
  obtain ⟨i0, hi, hz0, hz1, hz2⟩ := info_parts infoI
  refine run_buildSlice w 26 32 2 _ _ i0 _ Tryd.underlying26 hi hz0 (by rw [hz1]; decide) (by rw [hz1]; decide) ?_
  rw [hz1]
  have e : IC [i, j] = icells i ++ icells j := by simp [IC]
  rw [e]
  exact fill_two' (icells_len hi') (icells_len hj') _ (by simp)
theorem buildT1 (w : World) (q : Option Addr) (n m : Nat) : (Instr.build 33 #[(1, .slice q n m)]).run Tryd.prog w = .ok (.agg #[.int .u64 0, .slice q n m]) w :=
  run_build w 33 _ _ ((built_of 33 _ _ _ placesT zeroT).trans rfl)
theorem build_tx2 (w : World) (p q : Option Addr) (a b c d : Nat) : (Instr.buildSlice 24 2 #[(0, .agg #[.int .u64 0, .slice p a b]), (1, .agg #[.int .u64 0, .slice q c d])]).run Tryd.prog w = .ok (.slice (some ⟨w.heap.size, 0, none⟩) 2 2) (w.alloc (.cells #[.int .u64 0, .slice p a b, .int .u64 0, .slice q c d] 33)) := by
  obtain ⟨i0, hi, hz0, hz1, hz2⟩ := info_parts infoT
  refine run_buildSlice w 24 33 2 _ _ i0 _ Tryd.underlying24 hi hz0 (by rw [hz1]; decide) (by rw [hz1]; decide) ?_
  rw [hz1]
  exact fill_two' (cs := [.int .u64 0, .slice p a b]) (ds := [.int .u64 0, .slice q c d]) rfl rfl _ (by simp)
set_option maxRecDepth 100000 in
theorem buildV1 (w : World) (x : Int) : (Instr.build 30 #[(0, .int .u8 x)]).run Tryd.prog w = .ok (.agg (U8 (x :: zs 31)).toArray) w := run_build w 30 _ _ (by rfl)
set_option maxRecDepth 100000 in
theorem buildV3 (w : World) (x y z : Int) : (Instr.build 30 #[(0, .int .u8 x), (1, .int .u8 y), (2, .int .u8 z)]).run Tryd.prog w = .ok (.agg (U8 (x :: y :: z :: zs 29)).toArray) w := run_build w 30 _ _ (by rfl)
end Go.Proofs.YtefnkjajjidfaaaDoor
