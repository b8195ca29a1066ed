/-
  Layer 14: entries: the drawn region of its round.
-/
import Derived.Test.YtkffmglcllhbmaaKw
import Derived.BigQuiet
namespace Go.Proofs.Ytkffmglcllhbmaa
open Go.RowKit

open Go.Shelf
attribute [local go_sem] Oper.semAt_some
abbrev entOps (ps : String) : Array Oper := #[{ dst := some 18, op := Op.load 53 (Operand.tmp 6), type := 53, pos := ps, after := #[], guard := none }, { dst := some 19, op := Op.move (Operand.tmp 8), type := 30, pos := ps, after := #[], guard := none }, { dst := some 20, op := Op.buildSlice 37 0 #[], type := 37, pos := ps, after := #[], guard := none }, { dst := some 21, op := Op.move (Operand.tmp 9), type := 37, pos := ps, after := #[], guard := none }, { dst := some 22, op := Op.call { callee := Callee.builtin Builtin.append, args := #[Operand.tmp 20, Operand.tmp 21], argTypes := #[37, 37] }, type := 37, pos := ps, after := #[{ on := 2, ground := Ground.data }, { on := 3, ground := Ground.data }], guard := none }, { dst := some 23, op := Op.build 97 #[(0, Operand.tmp 19), (1, Operand.tmp 22)], type := 97, pos := ps, after := #[{ on := 1, ground := Ground.data }, { on := 4, ground := Ground.data }], guard := none }, { dst := some 24, op := Op.buildSlice 53 1 #[(0, Operand.tmp 23)], type := 53, pos := ps, after := #[{ on := 5, ground := Ground.data }], guard := none }, { dst := some 25, op := Op.call { callee := Callee.builtin Builtin.append, args := #[Operand.tmp 18, Operand.tmp 24], argTypes := #[53, 53] }, type := 53, pos := ps, after := #[{ on := 0, ground := Ground.data }, { on := 6, ground := Ground.data }, { on := 4, ground := Ground.chain }], guard := none }, { dst := none, op := Op.store 53 (Operand.tmp 6) (Operand.tmp 25), type := 0, pos := ps, after := #[{ on := 7, ground := Ground.data }, { on := 7, ground := Ground.chain }, { on := 0, ground := Ground.phase }, { on := 1, ground := Ground.phase }, { on := 2, ground := Ground.phase }, { on := 3, ground := Ground.phase }, { on := 4, ground := Ground.phase }, { on := 5, ground := Ground.phase }, { on := 6, ground := Ground.phase }, { on := 7, ground := Ground.phase }], guard := none }]
set_option maxHeartbeats 4000000 in
set_option maxRecDepth 100000 in
theorem ent_region {ps : String} {F : Fence} {l n : Nat} {Q' : Exit → Act → World → Prop} (w0 : World) (id Bs : Nat) (u : Int) (p : Option Addr) (k c : Nat) (vS : Value) (p3 : Option Addr) (c3 : Nat) (p2 : Option Addr) (n2 c2 : Nat) (z0 z1 z2 z3 z4 z5 z7 z10 z11 z12 z13 z14 z15 z16 z17 z26 z27 z28 z29 z30 z31 z32 z33 z34 z35 z36 z37 z38 z39 z40 z41 z42 : Value) (w w3 w4 : World) (hw : Hid (w = w0.drew))
    (ks : w.cell? ⟨Bs, 0, none⟩ = some vS) (ks1 : (w.alloc (.cells #[] 3)).cell? ⟨Bs, 0, none⟩ = some vS) (ks2 : w3.cell? ⟨Bs, 0, none⟩ = some vS) (ks3 : (w3.alloc (.cells #[.int .u64 u, .slice p3 k c3, .int .i64 0] 97)).cell? ⟨Bs, 0, none⟩ = some vS)
    (hap1 : (Builtin.append_ #[37, 37] 37 #[.slice (some ⟨w.heap.size, 0, none⟩) 0 0, .slice p k c]).run Try.prog (w.alloc (.cells #[] 3)) = .ok (.slice p3 k c3) w3)
    (hap2 : (Builtin.append_ #[53, 53] 53 #[vS, .slice (some ⟨w3.heap.size, 0, none⟩) 1 1]).run Try.prog (w3.alloc (.cells #[.int .u64 u, .slice p3 k c3, .int .i64 0] 97)) = .ok (.slice p2 n2 c2) w4)
    (kst : w4.cell? ⟨Bs, 0, none⟩ = some vS) (fst : w4.frozen? ⟨Bs, 0, none⟩ = false)
    (hfin : Q' .normal { tmps := #[z0, z1, z2, z3, z4, z5, .pointer (some ⟨Bs, 0, none⟩), z7, .int .u64 u, .slice p k c, z10, z11, z12, z13, z14, z15, z16, z17, vS, .int .u64 u, .slice (some ⟨w.heap.size, 0, none⟩) 0 0, .slice p k c, .slice p3 k c3, .agg #[.int .u64 u, .slice p3 k c3, .int .i64 0], .slice (some ⟨w3.heap.size, 0, none⟩) 1 1, .slice p2 n2 c2, z26, z27, z28, z29, z30, z31, z32, z33, z34, z35, z36, z37, z38, z39, z40, z41, z42], defers := [] } (w4.setCell ⟨Bs, 0, none⟩ (.slice p2 n2 c2))) :
    (Code.region id (entOps ps) true).wpIn (F.inRound l) n Try.prog Q' { tmps := #[z0, z1, z2, z3, z4, z5, .pointer (some ⟨Bs, 0, none⟩), z7, .int .u64 u, .slice p k c, z10, z11, z12, z13, z14, z15, z16, z17, undef, undef, undef, undef, undef, undef, undef, undef, z26, z27, z28, z29, z30, z31, z32, z33, z34, z35, z36, z37, z38, z39, z40, z41, z42], defers := [] } w0 := by
  have hmo : Try.prog.follows Departure.mixedOrders = true := by kernel_rfl
  have s111111111 : wpAnyIn (F.inRound l) n Try.prog .any (entOps ps) Q' 0 #[true, true, true, true, true, true, true, true, true] { tmps := #[z0, z1, z2, z3, z4, z5, .pointer (some ⟨Bs, 0, none⟩), z7, .int .u64 u, .slice p k c, z10, z11, z12, z13, z14, z15, z16, z17, vS, .int .u64 u, .slice (some ⟨w.heap.size, 0, none⟩) 0 0, .slice p k c, .slice p3 k c3, .agg #[.int .u64 u, .slice p3 k c3, .int .i64 0], .slice (some ⟨w3.heap.size, 0, none⟩) 1 1, .slice p2 n2 c2, z26, z27, z28, z29, z30, z31, z32, z33, z34, z35, z36, z37, z38, z39, z40, z41, z42], defers := [] } (w4.setCell ⟨Bs, 0, none⟩ (.slice p2 n2 c2)) := wpAnyIn_done (by kernel_rfl) hfin _
  have s111111110 : wpAnyIn (F.inRound l) n Try.prog .any (entOps ps) Q' 1 #[true, true, true, true, true, true, true, true, false] { tmps := #[z0, z1, z2, z3, z4, z5, .pointer (some ⟨Bs, 0, none⟩), z7, .int .u64 u, .slice p k c, z10, z11, z12, z13, z14, z15, z16, z17, vS, .int .u64 u, .slice (some ⟨w.heap.size, 0, none⟩) 0 0, .slice p k c, .slice p3 k c3, .agg #[.int .u64 u, .slice p3 k c3, .int .i64 0], .slice (some ⟨w3.heap.size, 0, none⟩) 1 1, .slice p2 n2 c2, z26, z27, z28, z29, z30, z31, z32, z33, z34, z35, z36, z37, z38, z39, z40, z41, z42], defers := [] } w4 := by
    refine wpAnyIn_ready (rs := [8]) (by kernel_rfl) (by simp) ?_
    refine AllReadyIn.cons rfl (fun Kc hKc => ?_) AllReadyIn.nil
    · go_simp
      exact hKc _ _ s111111111
  have s111111100 : wpAnyIn (F.inRound l) n Try.prog .any (entOps ps) Q' 2 #[true, true, true, true, true, true, true, false, false] { tmps := #[z0, z1, z2, z3, z4, z5, .pointer (some ⟨Bs, 0, none⟩), z7, .int .u64 u, .slice p k c, z10, z11, z12, z13, z14, z15, z16, z17, vS, .int .u64 u, .slice (some ⟨w.heap.size, 0, none⟩) 0 0, .slice p k c, .slice p3 k c3, .agg #[.int .u64 u, .slice p3 k c3, .int .i64 0], .slice (some ⟨w3.heap.size, 0, none⟩) 1 1, undef, z26, z27, z28, z29, z30, z31, z32, z33, z34, z35, z36, z37, z38, z39, z40, z41, z42], defers := [] } (w3.alloc (.cells #[.int .u64 u, .slice p3 k c3, .int .i64 0] 97)) := by
    refine wpAnyIn_ready (rs := [7]) (by kernel_rfl) (by simp) ?_
    refine AllReadyIn.cons rfl (fun Kc hKc => ?_) AllReadyIn.nil
    · refine step_in rfl rfl (exec_append rfl (by rfl) (by rfl) (by rfl) hap2) ?_
      exact hKc _ _ s111111110
  have s111111000 : wpAnyIn (F.inRound l) n Try.prog .any (entOps ps) Q' 3 #[true, true, true, true, true, true, false, false, false] { tmps := #[z0, z1, z2, z3, z4, z5, .pointer (some ⟨Bs, 0, none⟩), z7, .int .u64 u, .slice p k c, z10, z11, z12, z13, z14, z15, z16, z17, vS, .int .u64 u, .slice (some ⟨w.heap.size, 0, none⟩) 0 0, .slice p k c, .slice p3 k c3, .agg #[.int .u64 u, .slice p3 k c3, .int .i64 0], undef, undef, z26, z27, z28, z29, z30, z31, z32, z33, z34, z35, z36, z37, z38, z39, z40, z41, z42], defers := [] } w3 := by
    refine wpAnyIn_ready (rs := [6]) (by kernel_rfl) (by simp) ?_
    refine AllReadyIn.cons rfl (fun Kc hKc => ?_) AllReadyIn.nil
    · go_simp
      exact hKc _ _ s111111100
  have s011111100 : wpAnyIn (F.inRound l) n Try.prog .any (entOps ps) Q' 3 #[false, true, true, true, true, true, true, false, false] { tmps := #[z0, z1, z2, z3, z4, z5, .pointer (some ⟨Bs, 0, none⟩), z7, .int .u64 u, .slice p k c, z10, z11, z12, z13, z14, z15, z16, z17, undef, .int .u64 u, .slice (some ⟨w.heap.size, 0, none⟩) 0 0, .slice p k c, .slice p3 k c3, .agg #[.int .u64 u, .slice p3 k c3, .int .i64 0], .slice (some ⟨w3.heap.size, 0, none⟩) 1 1, undef, z26, z27, z28, z29, z30, z31, z32, z33, z34, z35, z36, z37, z38, z39, z40, z41, z42], defers := [] } (w3.alloc (.cells #[.int .u64 u, .slice p3 k c3, .int .i64 0] 97)) := by
    refine wpAnyIn_ready (rs := [0]) (by kernel_rfl) (by simp) ?_
    refine AllReadyIn.cons rfl (fun Kc hKc => ?_) AllReadyIn.nil
    · go_simp
      exact hKc _ _ s111111100
  have s111110000 : wpAnyIn (F.inRound l) n Try.prog .any (entOps ps) Q' 4 #[true, true, true, true, true, false, false, false, false] { tmps := #[z0, z1, z2, z3, z4, z5, .pointer (some ⟨Bs, 0, none⟩), z7, .int .u64 u, .slice p k c, z10, z11, z12, z13, z14, z15, z16, z17, vS, .int .u64 u, .slice (some ⟨w.heap.size, 0, none⟩) 0 0, .slice p k c, .slice p3 k c3, undef, undef, undef, z26, z27, z28, z29, z30, z31, z32, z33, z34, z35, z36, z37, z38, z39, z40, z41, z42], defers := [] } w3 := by
    refine wpAnyIn_ready (rs := [5]) (by kernel_rfl) (by simp) ?_
    refine AllReadyIn.cons rfl (fun Kc hKc => ?_) AllReadyIn.nil
    · go_simp
      exact hKc _ _ s111111000
  have s011111000 : wpAnyIn (F.inRound l) n Try.prog .any (entOps ps) Q' 4 #[false, true, true, true, true, true, false, false, false] { tmps := #[z0, z1, z2, z3, z4, z5, .pointer (some ⟨Bs, 0, none⟩), z7, .int .u64 u, .slice p k c, z10, z11, z12, z13, z14, z15, z16, z17, undef, .int .u64 u, .slice (some ⟨w.heap.size, 0, none⟩) 0 0, .slice p k c, .slice p3 k c3, .agg #[.int .u64 u, .slice p3 k c3, .int .i64 0], undef, undef, z26, z27, z28, z29, z30, z31, z32, z33, z34, z35, z36, z37, z38, z39, z40, z41, z42], defers := [] } w3 := by
    refine wpAnyIn_ready (rs := [0, 6]) (by kernel_rfl) (by simp) ?_
    refine AllReadyIn.cons rfl (fun Kc hKc => ?_) (AllReadyIn.cons rfl (fun Kc hKc => ?_) AllReadyIn.nil)
    · go_simp
      exact hKc _ _ s111111000
    · go_simp
      exact hKc _ _ s011111100
  have s111100000 : wpAnyIn (F.inRound l) n Try.prog .any (entOps ps) Q' 5 #[true, true, true, true, false, false, false, false, false] { tmps := #[z0, z1, z2, z3, z4, z5, .pointer (some ⟨Bs, 0, none⟩), z7, .int .u64 u, .slice p k c, z10, z11, z12, z13, z14, z15, z16, z17, vS, .int .u64 u, .slice (some ⟨w.heap.size, 0, none⟩) 0 0, .slice p k c, undef, undef, undef, undef, z26, z27, z28, z29, z30, z31, z32, z33, z34, z35, z36, z37, z38, z39, z40, z41, z42], defers := [] } (w.alloc (.cells #[] 3)) := by
    refine wpAnyIn_ready (rs := [4]) (by kernel_rfl) (by simp) ?_
    refine AllReadyIn.cons rfl (fun Kc hKc => ?_) AllReadyIn.nil
    · refine step_in rfl rfl (exec_append rfl (by rfl) (by rfl) (by rfl) hap1) ?_
      exact hKc _ _ s111110000
  have s101110000 : wpAnyIn (F.inRound l) n Try.prog .any (entOps ps) Q' 5 #[true, false, true, true, true, false, false, false, false] { tmps := #[z0, z1, z2, z3, z4, z5, .pointer (some ⟨Bs, 0, none⟩), z7, .int .u64 u, .slice p k c, z10, z11, z12, z13, z14, z15, z16, z17, vS, undef, .slice (some ⟨w.heap.size, 0, none⟩) 0 0, .slice p k c, .slice p3 k c3, undef, undef, undef, z26, z27, z28, z29, z30, z31, z32, z33, z34, z35, z36, z37, z38, z39, z40, z41, z42], defers := [] } w3 := by
    refine wpAnyIn_ready (rs := [1]) (by kernel_rfl) (by simp) ?_
    refine AllReadyIn.cons rfl (fun Kc hKc => ?_) AllReadyIn.nil
    · go_simp
      exact hKc _ _ s111110000
  have s011110000 : wpAnyIn (F.inRound l) n Try.prog .any (entOps ps) Q' 5 #[false, true, true, true, true, false, false, false, false] { tmps := #[z0, z1, z2, z3, z4, z5, .pointer (some ⟨Bs, 0, none⟩), z7, .int .u64 u, .slice p k c, z10, z11, z12, z13, z14, z15, z16, z17, undef, .int .u64 u, .slice (some ⟨w.heap.size, 0, none⟩) 0 0, .slice p k c, .slice p3 k c3, undef, undef, undef, z26, z27, z28, z29, z30, z31, z32, z33, z34, z35, z36, z37, z38, z39, z40, z41, z42], defers := [] } w3 := by
    refine wpAnyIn_ready (rs := [0, 5]) (by kernel_rfl) (by simp) ?_
    refine AllReadyIn.cons rfl (fun Kc hKc => ?_) (AllReadyIn.cons rfl (fun Kc hKc => ?_) AllReadyIn.nil)
    · go_simp
      exact hKc _ _ s111110000
    · go_simp
      exact hKc _ _ s011111000
  have s111000000 : wpAnyIn (F.inRound l) n Try.prog .any (entOps ps) Q' 6 #[true, true, true, false, false, false, false, false, false] { tmps := #[z0, z1, z2, z3, z4, z5, .pointer (some ⟨Bs, 0, none⟩), z7, .int .u64 u, .slice p k c, z10, z11, z12, z13, z14, z15, z16, z17, vS, .int .u64 u, .slice (some ⟨w.heap.size, 0, none⟩) 0 0, undef, undef, undef, undef, undef, z26, z27, z28, z29, z30, z31, z32, z33, z34, z35, z36, z37, z38, z39, z40, z41, z42], defers := [] } (w.alloc (.cells #[] 3)) := by
    refine wpAnyIn_ready (rs := [3]) (by kernel_rfl) (by simp) ?_
    refine AllReadyIn.cons rfl (fun Kc hKc => ?_) AllReadyIn.nil
    · go_simp
      exact hKc _ _ s111100000
  have s110100000 : wpAnyIn (F.inRound l) n Try.prog .any (entOps ps) Q' 6 #[true, true, false, true, false, false, false, false, false] { tmps := #[z0, z1, z2, z3, z4, z5, .pointer (some ⟨Bs, 0, none⟩), z7, .int .u64 u, .slice p k c, z10, z11, z12, z13, z14, z15, z16, z17, vS, .int .u64 u, undef, .slice p k c, undef, undef, undef, undef, z26, z27, z28, z29, z30, z31, z32, z33, z34, z35, z36, z37, z38, z39, z40, z41, z42], defers := [] } w := by
    refine wpAnyIn_ready (rs := [2]) (by kernel_rfl) (by simp) ?_
    refine AllReadyIn.cons rfl (fun Kc hKc => ?_) AllReadyIn.nil
    · go_simp
      exact hKc _ _ s111100000
  have s101100000 : wpAnyIn (F.inRound l) n Try.prog .any (entOps ps) Q' 6 #[true, false, true, true, false, false, false, false, false] { tmps := #[z0, z1, z2, z3, z4, z5, .pointer (some ⟨Bs, 0, none⟩), z7, .int .u64 u, .slice p k c, z10, z11, z12, z13, z14, z15, z16, z17, vS, undef, .slice (some ⟨w.heap.size, 0, none⟩) 0 0, .slice p k c, undef, undef, undef, undef, z26, z27, z28, z29, z30, z31, z32, z33, z34, z35, z36, z37, z38, z39, z40, z41, z42], defers := [] } (w.alloc (.cells #[] 3)) := by
    refine wpAnyIn_ready (rs := [1, 4]) (by kernel_rfl) (by simp) ?_
    refine AllReadyIn.cons rfl (fun Kc hKc => ?_) (AllReadyIn.cons rfl (fun Kc hKc => ?_) AllReadyIn.nil)
    · go_simp
      exact hKc _ _ s111100000
    · refine step_in rfl rfl (exec_append rfl (by rfl) (by rfl) (by rfl) hap1) ?_
      exact hKc _ _ s101110000
  have s011100000 : wpAnyIn (F.inRound l) n Try.prog .any (entOps ps) Q' 6 #[false, true, true, true, false, false, false, false, false] { tmps := #[z0, z1, z2, z3, z4, z5, .pointer (some ⟨Bs, 0, none⟩), z7, .int .u64 u, .slice p k c, z10, z11, z12, z13, z14, z15, z16, z17, undef, .int .u64 u, .slice (some ⟨w.heap.size, 0, none⟩) 0 0, .slice p k c, undef, undef, undef, undef, z26, z27, z28, z29, z30, z31, z32, z33, z34, z35, z36, z37, z38, z39, z40, z41, z42], defers := [] } (w.alloc (.cells #[] 3)) := by
    refine wpAnyIn_ready (rs := [0, 4]) (by kernel_rfl) (by simp) ?_
    refine AllReadyIn.cons rfl (fun Kc hKc => ?_) (AllReadyIn.cons rfl (fun Kc hKc => ?_) AllReadyIn.nil)
    · go_simp
      exact hKc _ _ s111100000
    · refine step_in rfl rfl (exec_append rfl (by rfl) (by rfl) (by rfl) hap1) ?_
      exact hKc _ _ s011110000
  have s001110000 : wpAnyIn (F.inRound l) n Try.prog .any (entOps ps) Q' 6 #[false, false, true, true, true, false, false, false, false] { tmps := #[z0, z1, z2, z3, z4, z5, .pointer (some ⟨Bs, 0, none⟩), z7, .int .u64 u, .slice p k c, z10, z11, z12, z13, z14, z15, z16, z17, undef, undef, .slice (some ⟨w.heap.size, 0, none⟩) 0 0, .slice p k c, .slice p3 k c3, undef, undef, undef, z26, z27, z28, z29, z30, z31, z32, z33, z34, z35, z36, z37, z38, z39, z40, z41, z42], defers := [] } w3 := by
    refine wpAnyIn_ready (rs := [0, 1]) (by kernel_rfl) (by simp) ?_
    refine AllReadyIn.cons rfl (fun Kc hKc => ?_) (AllReadyIn.cons rfl (fun Kc hKc => ?_) AllReadyIn.nil)
    · go_simp
      exact hKc _ _ s101110000
    · go_simp
      exact hKc _ _ s011110000
  have s110000000 : wpAnyIn (F.inRound l) n Try.prog .any (entOps ps) Q' 7 #[true, true, false, false, false, false, false, false, false] { tmps := #[z0, z1, z2, z3, z4, z5, .pointer (some ⟨Bs, 0, none⟩), z7, .int .u64 u, .slice p k c, z10, z11, z12, z13, z14, z15, z16, z17, vS, .int .u64 u, undef, undef, undef, undef, undef, undef, z26, z27, z28, z29, z30, z31, z32, z33, z34, z35, z36, z37, z38, z39, z40, z41, z42], defers := [] } w := by
    refine wpAnyIn_ready (rs := [2, 3]) (by kernel_rfl) (by simp) ?_
    refine AllReadyIn.cons rfl (fun Kc hKc => ?_) (AllReadyIn.cons rfl (fun Kc hKc => ?_) AllReadyIn.nil)
    · go_simp
      exact hKc _ _ s111000000
    · go_simp
      exact hKc _ _ s110100000
  have s101000000 : wpAnyIn (F.inRound l) n Try.prog .any (entOps ps) Q' 7 #[true, false, true, false, false, false, false, false, false] { tmps := #[z0, z1, z2, z3, z4, z5, .pointer (some ⟨Bs, 0, none⟩), z7, .int .u64 u, .slice p k c, z10, z11, z12, z13, z14, z15, z16, z17, vS, undef, .slice (some ⟨w.heap.size, 0, none⟩) 0 0, undef, undef, undef, undef, undef, z26, z27, z28, z29, z30, z31, z32, z33, z34, z35, z36, z37, z38, z39, z40, z41, z42], defers := [] } (w.alloc (.cells #[] 3)) := by
    refine wpAnyIn_ready (rs := [1, 3]) (by kernel_rfl) (by simp) ?_
    refine AllReadyIn.cons rfl (fun Kc hKc => ?_) (AllReadyIn.cons rfl (fun Kc hKc => ?_) AllReadyIn.nil)
    · go_simp
      exact hKc _ _ s111000000
    · go_simp
      exact hKc _ _ s101100000
  have s100100000 : wpAnyIn (F.inRound l) n Try.prog .any (entOps ps) Q' 7 #[true, false, false, true, false, false, false, false, false] { tmps := #[z0, z1, z2, z3, z4, z5, .pointer (some ⟨Bs, 0, none⟩), z7, .int .u64 u, .slice p k c, z10, z11, z12, z13, z14, z15, z16, z17, vS, undef, undef, .slice p k c, undef, undef, undef, undef, z26, z27, z28, z29, z30, z31, z32, z33, z34, z35, z36, z37, z38, z39, z40, z41, z42], defers := [] } w := by
    refine wpAnyIn_ready (rs := [1, 2]) (by kernel_rfl) (by simp) ?_
    refine AllReadyIn.cons rfl (fun Kc hKc => ?_) (AllReadyIn.cons rfl (fun Kc hKc => ?_) AllReadyIn.nil)
    · go_simp
      exact hKc _ _ s110100000
    · go_simp
      exact hKc _ _ s101100000
  have s011000000 : wpAnyIn (F.inRound l) n Try.prog .any (entOps ps) Q' 7 #[false, true, true, false, false, false, false, false, false] { tmps := #[z0, z1, z2, z3, z4, z5, .pointer (some ⟨Bs, 0, none⟩), z7, .int .u64 u, .slice p k c, z10, z11, z12, z13, z14, z15, z16, z17, undef, .int .u64 u, .slice (some ⟨w.heap.size, 0, none⟩) 0 0, undef, undef, undef, undef, undef, z26, z27, z28, z29, z30, z31, z32, z33, z34, z35, z36, z37, z38, z39, z40, z41, z42], defers := [] } (w.alloc (.cells #[] 3)) := by
    refine wpAnyIn_ready (rs := [0, 3]) (by kernel_rfl) (by simp) ?_
    refine AllReadyIn.cons rfl (fun Kc hKc => ?_) (AllReadyIn.cons rfl (fun Kc hKc => ?_) AllReadyIn.nil)
    · go_simp
      exact hKc _ _ s111000000
    · go_simp
      exact hKc _ _ s011100000
  have s010100000 : wpAnyIn (F.inRound l) n Try.prog .any (entOps ps) Q' 7 #[false, true, false, true, false, false, false, false, false] { tmps := #[z0, z1, z2, z3, z4, z5, .pointer (some ⟨Bs, 0, none⟩), z7, .int .u64 u, .slice p k c, z10, z11, z12, z13, z14, z15, z16, z17, undef, .int .u64 u, undef, .slice p k c, undef, undef, undef, undef, z26, z27, z28, z29, z30, z31, z32, z33, z34, z35, z36, z37, z38, z39, z40, z41, z42], defers := [] } w := by
    refine wpAnyIn_ready (rs := [0, 2]) (by kernel_rfl) (by simp) ?_
    refine AllReadyIn.cons rfl (fun Kc hKc => ?_) (AllReadyIn.cons rfl (fun Kc hKc => ?_) AllReadyIn.nil)
    · go_simp
      exact hKc _ _ s110100000
    · go_simp
      exact hKc _ _ s011100000
  have s001100000 : wpAnyIn (F.inRound l) n Try.prog .any (entOps ps) Q' 7 #[false, false, true, true, false, false, false, false, false] { tmps := #[z0, z1, z2, z3, z4, z5, .pointer (some ⟨Bs, 0, none⟩), z7, .int .u64 u, .slice p k c, z10, z11, z12, z13, z14, z15, z16, z17, undef, undef, .slice (some ⟨w.heap.size, 0, none⟩) 0 0, .slice p k c, undef, undef, undef, undef, z26, z27, z28, z29, z30, z31, z32, z33, z34, z35, z36, z37, z38, z39, z40, z41, z42], defers := [] } (w.alloc (.cells #[] 3)) := by
    refine wpAnyIn_ready (rs := [0, 1, 4]) (by kernel_rfl) (by simp) ?_
    refine AllReadyIn.cons rfl (fun Kc hKc => ?_) (AllReadyIn.cons rfl (fun Kc hKc => ?_) (AllReadyIn.cons rfl (fun Kc hKc => ?_) AllReadyIn.nil))
    · go_simp
      exact hKc _ _ s101100000
    · go_simp
      exact hKc _ _ s011100000
    · refine step_in rfl rfl (exec_append rfl (by rfl) (by rfl) (by rfl) hap1) ?_
      exact hKc _ _ s001110000
  have s100000000 : wpAnyIn (F.inRound l) n Try.prog .any (entOps ps) Q' 8 #[true, false, false, false, false, false, false, false, false] { tmps := #[z0, z1, z2, z3, z4, z5, .pointer (some ⟨Bs, 0, none⟩), z7, .int .u64 u, .slice p k c, z10, z11, z12, z13, z14, z15, z16, z17, vS, undef, undef, undef, undef, undef, undef, undef, z26, z27, z28, z29, z30, z31, z32, z33, z34, z35, z36, z37, z38, z39, z40, z41, z42], defers := [] } w := by
    refine wpAnyIn_ready (rs := [1, 2, 3]) (by kernel_rfl) (by simp) ?_
    refine AllReadyIn.cons rfl (fun Kc hKc => ?_) (AllReadyIn.cons rfl (fun Kc hKc => ?_) (AllReadyIn.cons rfl (fun Kc hKc => ?_) AllReadyIn.nil))
    · go_simp
      exact hKc _ _ s110000000
    · go_simp
      exact hKc _ _ s101000000
    · go_simp
      exact hKc _ _ s100100000
  have s010000000 : wpAnyIn (F.inRound l) n Try.prog .any (entOps ps) Q' 8 #[false, true, false, false, false, false, false, false, false] { tmps := #[z0, z1, z2, z3, z4, z5, .pointer (some ⟨Bs, 0, none⟩), z7, .int .u64 u, .slice p k c, z10, z11, z12, z13, z14, z15, z16, z17, undef, .int .u64 u, undef, undef, undef, undef, undef, undef, z26, z27, z28, z29, z30, z31, z32, z33, z34, z35, z36, z37, z38, z39, z40, z41, z42], defers := [] } w := by
    refine wpAnyIn_ready (rs := [0, 2, 3]) (by kernel_rfl) (by simp) ?_
    refine AllReadyIn.cons rfl (fun Kc hKc => ?_) (AllReadyIn.cons rfl (fun Kc hKc => ?_) (AllReadyIn.cons rfl (fun Kc hKc => ?_) AllReadyIn.nil))
    · go_simp
      exact hKc _ _ s110000000
    · go_simp
      exact hKc _ _ s011000000
    · go_simp
      exact hKc _ _ s010100000
  have s001000000 : wpAnyIn (F.inRound l) n Try.prog .any (entOps ps) Q' 8 #[false, false, true, false, false, false, false, false, false] { tmps := #[z0, z1, z2, z3, z4, z5, .pointer (some ⟨Bs, 0, none⟩), z7, .int .u64 u, .slice p k c, z10, z11, z12, z13, z14, z15, z16, z17, undef, undef, .slice (some ⟨w.heap.size, 0, none⟩) 0 0, undef, undef, undef, undef, undef, z26, z27, z28, z29, z30, z31, z32, z33, z34, z35, z36, z37, z38, z39, z40, z41, z42], defers := [] } (w.alloc (.cells #[] 3)) := by
    refine wpAnyIn_ready (rs := [0, 1, 3]) (by kernel_rfl) (by simp) ?_
    refine AllReadyIn.cons rfl (fun Kc hKc => ?_) (AllReadyIn.cons rfl (fun Kc hKc => ?_) (AllReadyIn.cons rfl (fun Kc hKc => ?_) AllReadyIn.nil))
    · go_simp
      exact hKc _ _ s101000000
    · go_simp
      exact hKc _ _ s011000000
    · go_simp
      exact hKc _ _ s001100000
  have s000100000 : wpAnyIn (F.inRound l) n Try.prog .any (entOps ps) Q' 8 #[false, false, false, true, false, false, false, false, false] { tmps := #[z0, z1, z2, z3, z4, z5, .pointer (some ⟨Bs, 0, none⟩), z7, .int .u64 u, .slice p k c, z10, z11, z12, z13, z14, z15, z16, z17, undef, undef, undef, .slice p k c, undef, undef, undef, undef, z26, z27, z28, z29, z30, z31, z32, z33, z34, z35, z36, z37, z38, z39, z40, z41, z42], defers := [] } w := by
    refine wpAnyIn_ready (rs := [0, 1, 2]) (by kernel_rfl) (by simp) ?_
    refine AllReadyIn.cons rfl (fun Kc hKc => ?_) (AllReadyIn.cons rfl (fun Kc hKc => ?_) (AllReadyIn.cons rfl (fun Kc hKc => ?_) AllReadyIn.nil))
    · go_simp
      exact hKc _ _ s100100000
    · go_simp
      exact hKc _ _ s010100000
    · go_simp
      exact hKc _ _ s001100000
  have s000000000 : wpAnyIn (F.inRound l) n Try.prog .any (entOps ps) Q' 9 #[false, false, false, false, false, false, false, false, false] { tmps := #[z0, z1, z2, z3, z4, z5, .pointer (some ⟨Bs, 0, none⟩), z7, .int .u64 u, .slice p k c, z10, z11, z12, z13, z14, z15, z16, z17, undef, undef, undef, undef, undef, undef, undef, undef, z26, z27, z28, z29, z30, z31, z32, z33, z34, z35, z36, z37, z38, z39, z40, z41, z42], defers := [] } w := by
    refine wpAnyIn_ready (rs := [0, 1, 2, 3]) (by kernel_rfl) (by simp) ?_
    refine AllReadyIn.cons rfl (fun Kc hKc => ?_) (AllReadyIn.cons rfl (fun Kc hKc => ?_) (AllReadyIn.cons rfl (fun Kc hKc => ?_) (AllReadyIn.cons rfl (fun Kc hKc => ?_) AllReadyIn.nil)))
    · go_simp
      exact hKc _ _ s100000000
    · go_simp
      exact hKc _ _ s010000000
    · go_simp
      exact hKc _ _ s001000000
    · go_simp
      exact hKc _ _ s000100000
  refine wpIn_region_any hmo ?_
  rw [hw.out] at s000000000
  exact s000000000
end Go.Proofs.Ytkffmglcllhbmaa
