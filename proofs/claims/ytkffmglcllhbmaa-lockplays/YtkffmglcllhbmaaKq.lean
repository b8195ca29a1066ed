/-
  Layer 14: the drawn region of All's loop; a range over a sequence that hands over new memory.
-/
import Derived.Test.YtkffmglcllhbmaaKl
import Derived.Test.YtkffmglcllhbmaaVa
import Derived.LaidMore
import Derived.BigQuiet
namespace Go.Proofs.Ytkffmglcllhbmaa
open Go.RowKit

open Go.Shelf
attribute [local go_sem] Oper.semAt_some
theorem step_in {F : Fence} {n : Nat} {P : Program} {o : Oper} {a : Act} {w : World} {K : Act → World → Prop} {Q : Exit → Act → World → Prop} {E : Prop} {md : Nat → Option Bool} (hw : Region.wanted o md = true) (hab : o.about P w a.eval = none) {v : Value} {w' : World} (hs : (o.semAt F.round a.eval).run P w = .ok (.value v) w') (h : K (a.put o.dst v) w') : if Region.wanted o md = true then Oper.wpIn F n P o a w K Q else E := by
  rw [if_pos hw]
  unfold Oper.wpIn
  refine ⟨fun f hf => (by rw [hab] at hf; cases hf), ?_⟩
  rw [hs]
  exact h
theorem exec_append {P : Program} {ro : Option Nat} {o : Oper} {a : Act} {w w' : World} {s x : Operand} {t : TypeId} {v u v' : Value} (ho : o.op = .call { callee := .builtin .append, args := #[s, x], argTypes := #[t, t] }) (hd : o.semAt ro a.eval = execOp a.eval o) (hs : a.eval s = v) (hx : a.eval x = u) (hr : (Builtin.append_ #[t, t] o.type #[v, u]).run P w = .ok v' w') : (o.semAt ro a.eval).run P w = .ok (.value v') w' := by
  rw [hd]
  simp [execOp, ho, resolve, invoke, builtin, hs, hx, hr]
abbrev allOps (ps : String) : Array Oper := #[{ dst := some 18, op := Op.load 25 (Operand.tmp 4), type := 25, pos := ps, after := #[], guard := none }, { dst := some 19, op := Op.load 24 (Operand.tmp 1), type := 24, pos := ps, after := #[], guard := none }, { dst := some 20, op := Op.nilCheck (Operand.tmp 19), type := 0, pos := ps, after := #[{ on := 1, ground := Ground.data }], guard := none }, { dst := some 21, op := Op.fieldAddr 83 (Operand.tmp 20) 2, type := 0, pos := ps, after := #[{ on := 2, ground := Ground.data }], guard := none }, { dst := some 22, op := Op.load 81 (Operand.tmp 21), type := 81, pos := ps, after := #[{ on := 3, ground := Ground.data }], guard := none }, { dst := some 23, op := Op.move (Operand.tmp 5), type := 30, pos := ps, after := #[], guard := none }, { dst := some 24, op := Op.lookup 81 (Operand.tmp 22) (Operand.tmp 23) false, type := 75, pos := ps, after := #[{ on := 4, ground := Ground.data }, { on := 5, ground := Ground.data }], guard := none }, { dst := some 25, op := Op.field 75 (Operand.tmp 24) 0, type := 37, pos := ps, after := #[{ on := 6, ground := Ground.data }], guard := none }, { dst := some 26, op := Op.buildSlice 25 1 #[(0, Operand.tmp 25)], type := 25, pos := ps, after := #[{ on := 7, ground := Ground.data }], guard := none }, { dst := some 27, op := Op.call { callee := Callee.builtin Builtin.append, args := #[Operand.tmp 18, Operand.tmp 26], argTypes := #[25, 25] }, type := 25, pos := ps, after := #[{ on := 0, ground := Ground.data }, { on := 8, ground := Ground.data }], guard := none }, { dst := none, op := Op.store 25 (Operand.tmp 4) (Operand.tmp 27), type := 0, pos := ps, after := #[{ on := 9, ground := Ground.data }, { on := 9, ground := Ground.chain }, { on := 0, ground := Ground.phase }, { on := 1, ground := Ground.phase }, { on := 2, ground := Ground.phase }, { on := 3, ground := Ground.phase }, { on := 4, ground := Ground.phase }, { on := 5, ground := Ground.phase }, { on := 6, ground := Ground.phase }, { on := 7, ground := Ground.phase }, { on := 8, ground := Ground.phase }, { on := 9, ground := Ground.phase }], guard := none }]
set_option maxHeartbeats 4000000 in
set_option maxRecDepth 100000 in
theorem all_region {ps : String} {F : Fence} {l n : Nat} {Q' : Exit → Act → World → Prop} (w0 : World) (id Bl Bs Q mb : Nat) (u : Int) (p : Option Addr) (k c d : Nat) (vS : Value) (p2 : Option Addr) (n2 c2 : Nat) (z0 z2 z3 z6 z7 z8 z9 z10 z11 z12 z13 z14 z15 z16 z17 z28 : Value) (w w2 : World) (hw : Hid (w = w0.drew))
    (kl : w.cell? ⟨Bl, 0, none⟩ = some (qp Q)) (ks : w.cell? ⟨Bs, 0, none⟩ = some vS) (ks2 : (w.alloc (.cells #[.slice p k c] 37)).cell? ⟨Bs, 0, none⟩ = some vS) (k2 : w.cell? ⟨Q, 2, none⟩ = some (.map (some mb)))
    (hlk : (Instr.lookup 81 (.map (some mb)) (.int .u64 u) false).run Try.prog w = .ok (cv (.slice p k c) d) w)
    (hap : (Builtin.append_ #[25, 25] 25 #[vS, .slice (some ⟨w.heap.size, 0, none⟩) 1 1]).run Try.prog (w.alloc (.cells #[.slice p k c] 37)) = .ok (.slice p2 n2 c2) w2)
    (kst : w2.cell? ⟨Bs, 0, none⟩ = some vS) (fst : w2.frozen? ⟨Bs, 0, none⟩ = false)
    (hfin : Q' .normal { tmps := #[z0, .pointer (some ⟨Bl, 0, none⟩), z2, z3, .pointer (some ⟨Bs, 0, none⟩), .int .u64 u, z6, z7, z8, z9, z10, z11, z12, z13, z14, z15, z16, z17, vS, qp Q, qp Q, .pointer (some ⟨Q, 2, none⟩), .map (some mb), .int .u64 u, cv (.slice p k c) d, .slice p k c, .slice (some ⟨w.heap.size, 0, none⟩) 1 1, .slice p2 n2 c2, z28], defers := [] } (w2.setCell ⟨Bs, 0, none⟩ (.slice p2 n2 c2))) :
    (Code.region id (allOps ps) true).wpIn (F.inRound l) n Try.prog Q' { tmps := #[z0, .pointer (some ⟨Bl, 0, none⟩), z2, z3, .pointer (some ⟨Bs, 0, none⟩), .int .u64 u, z6, z7, z8, z9, z10, z11, z12, z13, z14, z15, z16, z17, undef, undef, undef, undef, undef, undef, undef, undef, undef, undef, z28], defers := [] } w0 := by
  have hmo : Try.prog.follows Departure.mixedOrders = true := by kernel_rfl
  have s11111111111 : wpAnyIn (F.inRound l) n Try.prog .any (allOps ps) Q' 0 #[true, true, true, true, true, true, true, true, true, true, true] { tmps := #[z0, .pointer (some ⟨Bl, 0, none⟩), z2, z3, .pointer (some ⟨Bs, 0, none⟩), .int .u64 u, z6, z7, z8, z9, z10, z11, z12, z13, z14, z15, z16, z17, vS, qp Q, qp Q, .pointer (some ⟨Q, 2, none⟩), .map (some mb), .int .u64 u, cv (.slice p k c) d, .slice p k c, .slice (some ⟨w.heap.size, 0, none⟩) 1 1, .slice p2 n2 c2, z28], defers := [] } (w2.setCell ⟨Bs, 0, none⟩ (.slice p2 n2 c2)) := wpAnyIn_done (by kernel_rfl) hfin _
  have s11111111110 : wpAnyIn (F.inRound l) n Try.prog .any (allOps ps) Q' 1 #[true, true, true, true, true, true, true, true, true, true, false] { tmps := #[z0, .pointer (some ⟨Bl, 0, none⟩), z2, z3, .pointer (some ⟨Bs, 0, none⟩), .int .u64 u, z6, z7, z8, z9, z10, z11, z12, z13, z14, z15, z16, z17, vS, qp Q, qp Q, .pointer (some ⟨Q, 2, none⟩), .map (some mb), .int .u64 u, cv (.slice p k c) d, .slice p k c, .slice (some ⟨w.heap.size, 0, none⟩) 1 1, .slice p2 n2 c2, z28], defers := [] } w2 := by
    refine wpAnyIn_ready (rs := [10]) (by kernel_rfl) (by simp) ?_
    refine AllReadyIn.cons rfl (fun Kc hKc => ?_) AllReadyIn.nil
    · go_simp
      exact hKc _ _ s11111111111
  have s11111111100 : wpAnyIn (F.inRound l) n Try.prog .any (allOps ps) Q' 2 #[true, true, true, true, true, true, true, true, true, false, false] { tmps := #[z0, .pointer (some ⟨Bl, 0, none⟩), z2, z3, .pointer (some ⟨Bs, 0, none⟩), .int .u64 u, z6, z7, z8, z9, z10, z11, z12, z13, z14, z15, z16, z17, vS, qp Q, qp Q, .pointer (some ⟨Q, 2, none⟩), .map (some mb), .int .u64 u, cv (.slice p k c) d, .slice p k c, .slice (some ⟨w.heap.size, 0, none⟩) 1 1, undef, z28], defers := [] } (w.alloc (.cells #[.slice p k c] 37)) := by
    refine wpAnyIn_ready (rs := [9]) (by kernel_rfl) (by simp) ?_
    refine AllReadyIn.cons rfl (fun Kc hKc => ?_) AllReadyIn.nil
    · refine step_in rfl rfl (exec_append rfl (by rfl) (by rfl) (by rfl) hap) ?_
      exact hKc _ _ s11111111110
  have s11111111000 : wpAnyIn (F.inRound l) n Try.prog .any (allOps ps) Q' 3 #[true, true, true, true, true, true, true, true, false, false, false] { tmps := #[z0, .pointer (some ⟨Bl, 0, none⟩), z2, z3, .pointer (some ⟨Bs, 0, none⟩), .int .u64 u, z6, z7, z8, z9, z10, z11, z12, z13, z14, z15, z16, z17, vS, qp Q, qp Q, .pointer (some ⟨Q, 2, none⟩), .map (some mb), .int .u64 u, cv (.slice p k c) d, .slice p k c, undef, undef, z28], defers := [] } w := by
    refine wpAnyIn_ready (rs := [8]) (by kernel_rfl) (by simp) ?_
    refine AllReadyIn.cons rfl (fun Kc hKc => ?_) AllReadyIn.nil
    · go_simp
      exact hKc _ _ s11111111100
  have s01111111100 : wpAnyIn (F.inRound l) n Try.prog .any (allOps ps) Q' 3 #[false, true, true, true, true, true, true, true, true, false, false] { tmps := #[z0, .pointer (some ⟨Bl, 0, none⟩), z2, z3, .pointer (some ⟨Bs, 0, none⟩), .int .u64 u, z6, z7, z8, z9, z10, z11, z12, z13, z14, z15, z16, z17, undef, qp Q, qp Q, .pointer (some ⟨Q, 2, none⟩), .map (some mb), .int .u64 u, cv (.slice p k c) d, .slice p k c, .slice (some ⟨w.heap.size, 0, none⟩) 1 1, undef, z28], defers := [] } (w.alloc (.cells #[.slice p k c] 37)) := by
    refine wpAnyIn_ready (rs := [0]) (by kernel_rfl) (by simp) ?_
    refine AllReadyIn.cons rfl (fun Kc hKc => ?_) AllReadyIn.nil
    · go_simp
      exact hKc _ _ s11111111100
  have s11111110000 : wpAnyIn (F.inRound l) n Try.prog .any (allOps ps) Q' 4 #[true, true, true, true, true, true, true, false, false, false, false] { tmps := #[z0, .pointer (some ⟨Bl, 0, none⟩), z2, z3, .pointer (some ⟨Bs, 0, none⟩), .int .u64 u, z6, z7, z8, z9, z10, z11, z12, z13, z14, z15, z16, z17, vS, qp Q, qp Q, .pointer (some ⟨Q, 2, none⟩), .map (some mb), .int .u64 u, cv (.slice p k c) d, undef, undef, undef, z28], defers := [] } w := by
    refine wpAnyIn_ready (rs := [7]) (by kernel_rfl) (by simp) ?_
    refine AllReadyIn.cons rfl (fun Kc hKc => ?_) AllReadyIn.nil
    · go_simp
      exact hKc _ _ s11111111000
  have s01111111000 : wpAnyIn (F.inRound l) n Try.prog .any (allOps ps) Q' 4 #[false, true, true, true, true, true, true, true, false, false, false] { tmps := #[z0, .pointer (some ⟨Bl, 0, none⟩), z2, z3, .pointer (some ⟨Bs, 0, none⟩), .int .u64 u, z6, z7, z8, z9, z10, z11, z12, z13, z14, z15, z16, z17, undef, qp Q, qp Q, .pointer (some ⟨Q, 2, none⟩), .map (some mb), .int .u64 u, cv (.slice p k c) d, .slice p k c, undef, undef, z28], defers := [] } w := by
    refine wpAnyIn_ready (rs := [0, 8]) (by kernel_rfl) (by simp) ?_
    refine AllReadyIn.cons rfl (fun Kc hKc => ?_) (AllReadyIn.cons rfl (fun Kc hKc => ?_) AllReadyIn.nil)
    · go_simp
      exact hKc _ _ s11111111000
    · go_simp
      exact hKc _ _ s01111111100
  have s11111100000 : wpAnyIn (F.inRound l) n Try.prog .any (allOps ps) Q' 5 #[true, true, true, true, true, true, false, false, false, false, false] { tmps := #[z0, .pointer (some ⟨Bl, 0, none⟩), z2, z3, .pointer (some ⟨Bs, 0, none⟩), .int .u64 u, z6, z7, z8, z9, z10, z11, z12, z13, z14, z15, z16, z17, vS, qp Q, qp Q, .pointer (some ⟨Q, 2, none⟩), .map (some mb), .int .u64 u, undef, undef, undef, undef, z28], defers := [] } w := by
    refine wpAnyIn_ready (rs := [6]) (by kernel_rfl) (by simp) ?_
    refine AllReadyIn.cons rfl (fun Kc hKc => ?_) AllReadyIn.nil
    · go_simp
      exact hKc _ _ s11111110000
  have s01111110000 : wpAnyIn (F.inRound l) n Try.prog .any (allOps ps) Q' 5 #[false, true, true, true, true, true, true, false, false, false, false] { tmps := #[z0, .pointer (some ⟨Bl, 0, none⟩), z2, z3, .pointer (some ⟨Bs, 0, none⟩), .int .u64 u, z6, z7, z8, z9, z10, z11, z12, z13, z14, z15, z16, z17, undef, qp Q, qp Q, .pointer (some ⟨Q, 2, none⟩), .map (some mb), .int .u64 u, cv (.slice p k c) d, undef, undef, undef, z28], defers := [] } w := by
    refine wpAnyIn_ready (rs := [0, 7]) (by kernel_rfl) (by simp) ?_
    refine AllReadyIn.cons rfl (fun Kc hKc => ?_) (AllReadyIn.cons rfl (fun Kc hKc => ?_) AllReadyIn.nil)
    · go_simp
      exact hKc _ _ s11111110000
    · go_simp
      exact hKc _ _ s01111111000
  have s11111000000 : wpAnyIn (F.inRound l) n Try.prog .any (allOps ps) Q' 6 #[true, true, true, true, true, false, false, false, false, false, false] { tmps := #[z0, .pointer (some ⟨Bl, 0, none⟩), z2, z3, .pointer (some ⟨Bs, 0, none⟩), .int .u64 u, z6, z7, z8, z9, z10, z11, z12, z13, z14, z15, z16, z17, vS, qp Q, qp Q, .pointer (some ⟨Q, 2, none⟩), .map (some mb), undef, undef, undef, undef, undef, z28], defers := [] } w := by
    refine wpAnyIn_ready (rs := [5]) (by kernel_rfl) (by simp) ?_
    refine AllReadyIn.cons rfl (fun Kc hKc => ?_) AllReadyIn.nil
    · go_simp
      exact hKc _ _ s11111100000
  have s11110100000 : wpAnyIn (F.inRound l) n Try.prog .any (allOps ps) Q' 6 #[true, true, true, true, false, true, false, false, false, false, false] { tmps := #[z0, .pointer (some ⟨Bl, 0, none⟩), z2, z3, .pointer (some ⟨Bs, 0, none⟩), .int .u64 u, z6, z7, z8, z9, z10, z11, z12, z13, z14, z15, z16, z17, vS, qp Q, qp Q, .pointer (some ⟨Q, 2, none⟩), undef, .int .u64 u, undef, undef, undef, undef, z28], defers := [] } w := by
    refine wpAnyIn_ready (rs := [4]) (by kernel_rfl) (by simp) ?_
    refine AllReadyIn.cons rfl (fun Kc hKc => ?_) AllReadyIn.nil
    · go_simp
      exact hKc _ _ s11111100000
  have s01111100000 : wpAnyIn (F.inRound l) n Try.prog .any (allOps ps) Q' 6 #[false, true, true, true, true, true, false, false, false, false, false] { tmps := #[z0, .pointer (some ⟨Bl, 0, none⟩), z2, z3, .pointer (some ⟨Bs, 0, none⟩), .int .u64 u, z6, z7, z8, z9, z10, z11, z12, z13, z14, z15, z16, z17, undef, qp Q, qp Q, .pointer (some ⟨Q, 2, none⟩), .map (some mb), .int .u64 u, undef, undef, undef, undef, z28], defers := [] } w := by
    refine wpAnyIn_ready (rs := [0, 6]) (by kernel_rfl) (by simp) ?_
    refine AllReadyIn.cons rfl (fun Kc hKc => ?_) (AllReadyIn.cons rfl (fun Kc hKc => ?_) AllReadyIn.nil)
    · go_simp
      exact hKc _ _ s11111100000
    · go_simp
      exact hKc _ _ s01111110000
  have s11110000000 : wpAnyIn (F.inRound l) n Try.prog .any (allOps ps) Q' 7 #[true, true, true, true, false, false, false, false, false, false, false] { tmps := #[z0, .pointer (some ⟨Bl, 0, none⟩), z2, z3, .pointer (some ⟨Bs, 0, none⟩), .int .u64 u, z6, z7, z8, z9, z10, z11, z12, z13, z14, z15, z16, z17, vS, qp Q, qp Q, .pointer (some ⟨Q, 2, none⟩), undef, undef, undef, undef, undef, undef, z28], defers := [] } w := by
    refine wpAnyIn_ready (rs := [4, 5]) (by kernel_rfl) (by simp) ?_
    refine AllReadyIn.cons rfl (fun Kc hKc => ?_) (AllReadyIn.cons rfl (fun Kc hKc => ?_) AllReadyIn.nil)
    · go_simp
      exact hKc _ _ s11111000000
    · go_simp
      exact hKc _ _ s11110100000
  have s11100100000 : wpAnyIn (F.inRound l) n Try.prog .any (allOps ps) Q' 7 #[true, true, true, false, false, true, false, false, false, false, false] { tmps := #[z0, .pointer (some ⟨Bl, 0, none⟩), z2, z3, .pointer (some ⟨Bs, 0, none⟩), .int .u64 u, z6, z7, z8, z9, z10, z11, z12, z13, z14, z15, z16, z17, vS, qp Q, qp Q, undef, undef, .int .u64 u, undef, undef, undef, undef, z28], defers := [] } w := by
    refine wpAnyIn_ready (rs := [3]) (by kernel_rfl) (by simp) ?_
    refine AllReadyIn.cons rfl (fun Kc hKc => ?_) AllReadyIn.nil
    · go_simp
      exact hKc _ _ s11110100000
  have s01111000000 : wpAnyIn (F.inRound l) n Try.prog .any (allOps ps) Q' 7 #[false, true, true, true, true, false, false, false, false, false, false] { tmps := #[z0, .pointer (some ⟨Bl, 0, none⟩), z2, z3, .pointer (some ⟨Bs, 0, none⟩), .int .u64 u, z6, z7, z8, z9, z10, z11, z12, z13, z14, z15, z16, z17, undef, qp Q, qp Q, .pointer (some ⟨Q, 2, none⟩), .map (some mb), undef, undef, undef, undef, undef, z28], defers := [] } w := by
    refine wpAnyIn_ready (rs := [0, 5]) (by kernel_rfl) (by simp) ?_
    refine AllReadyIn.cons rfl (fun Kc hKc => ?_) (AllReadyIn.cons rfl (fun Kc hKc => ?_) AllReadyIn.nil)
    · go_simp
      exact hKc _ _ s11111000000
    · go_simp
      exact hKc _ _ s01111100000
  have s01110100000 : wpAnyIn (F.inRound l) n Try.prog .any (allOps ps) Q' 7 #[false, true, true, true, false, true, false, false, false, false, false] { tmps := #[z0, .pointer (some ⟨Bl, 0, none⟩), z2, z3, .pointer (some ⟨Bs, 0, none⟩), .int .u64 u, z6, z7, z8, z9, z10, z11, z12, z13, z14, z15, z16, z17, undef, qp Q, qp Q, .pointer (some ⟨Q, 2, none⟩), undef, .int .u64 u, undef, undef, undef, undef, z28], defers := [] } w := by
    refine wpAnyIn_ready (rs := [0, 4]) (by kernel_rfl) (by simp) ?_
    refine AllReadyIn.cons rfl (fun Kc hKc => ?_) (AllReadyIn.cons rfl (fun Kc hKc => ?_) AllReadyIn.nil)
    · go_simp
      exact hKc _ _ s11110100000
    · go_simp
      exact hKc _ _ s01111100000
  have s11100000000 : wpAnyIn (F.inRound l) n Try.prog .any (allOps ps) Q' 8 #[true, true, true, false, false, false, false, false, false, false, false] { tmps := #[z0, .pointer (some ⟨Bl, 0, none⟩), z2, z3, .pointer (some ⟨Bs, 0, none⟩), .int .u64 u, z6, z7, z8, z9, z10, z11, z12, z13, z14, z15, z16, z17, vS, qp Q, qp Q, undef, undef, undef, undef, undef, undef, undef, z28], defers := [] } w := by
    refine wpAnyIn_ready (rs := [3, 5]) (by kernel_rfl) (by simp) ?_
    refine AllReadyIn.cons rfl (fun Kc hKc => ?_) (AllReadyIn.cons rfl (fun Kc hKc => ?_) AllReadyIn.nil)
    · go_simp
      exact hKc _ _ s11110000000
    · go_simp
      exact hKc _ _ s11100100000
  have s11000100000 : wpAnyIn (F.inRound l) n Try.prog .any (allOps ps) Q' 8 #[true, true, false, false, false, true, false, false, false, false, false] { tmps := #[z0, .pointer (some ⟨Bl, 0, none⟩), z2, z3, .pointer (some ⟨Bs, 0, none⟩), .int .u64 u, z6, z7, z8, z9, z10, z11, z12, z13, z14, z15, z16, z17, vS, qp Q, undef, undef, undef, .int .u64 u, undef, undef, undef, undef, z28], defers := [] } w := by
    refine wpAnyIn_ready (rs := [2]) (by kernel_rfl) (by simp) ?_
    refine AllReadyIn.cons rfl (fun Kc hKc => ?_) AllReadyIn.nil
    · go_simp
      exact hKc _ _ s11100100000
  have s01110000000 : wpAnyIn (F.inRound l) n Try.prog .any (allOps ps) Q' 8 #[false, true, true, true, false, false, false, false, false, false, false] { tmps := #[z0, .pointer (some ⟨Bl, 0, none⟩), z2, z3, .pointer (some ⟨Bs, 0, none⟩), .int .u64 u, z6, z7, z8, z9, z10, z11, z12, z13, z14, z15, z16, z17, undef, qp Q, qp Q, .pointer (some ⟨Q, 2, none⟩), undef, undef, undef, undef, undef, undef, z28], defers := [] } w := by
    refine wpAnyIn_ready (rs := [0, 4, 5]) (by kernel_rfl) (by simp) ?_
    refine AllReadyIn.cons rfl (fun Kc hKc => ?_) (AllReadyIn.cons rfl (fun Kc hKc => ?_) (AllReadyIn.cons rfl (fun Kc hKc => ?_) AllReadyIn.nil))
    · go_simp
      exact hKc _ _ s11110000000
    · go_simp
      exact hKc _ _ s01111000000
    · go_simp
      exact hKc _ _ s01110100000
  have s01100100000 : wpAnyIn (F.inRound l) n Try.prog .any (allOps ps) Q' 8 #[false, true, true, false, false, true, false, false, false, false, false] { tmps := #[z0, .pointer (some ⟨Bl, 0, none⟩), z2, z3, .pointer (some ⟨Bs, 0, none⟩), .int .u64 u, z6, z7, z8, z9, z10, z11, z12, z13, z14, z15, z16, z17, undef, qp Q, qp Q, undef, undef, .int .u64 u, undef, undef, undef, undef, z28], defers := [] } w := by
    refine wpAnyIn_ready (rs := [0, 3]) (by kernel_rfl) (by simp) ?_
    refine AllReadyIn.cons rfl (fun Kc hKc => ?_) (AllReadyIn.cons rfl (fun Kc hKc => ?_) AllReadyIn.nil)
    · go_simp
      exact hKc _ _ s11100100000
    · go_simp
      exact hKc _ _ s01110100000
  have s11000000000 : wpAnyIn (F.inRound l) n Try.prog .any (allOps ps) Q' 9 #[true, true, false, false, false, false, false, false, false, false, false] { tmps := #[z0, .pointer (some ⟨Bl, 0, none⟩), z2, z3, .pointer (some ⟨Bs, 0, none⟩), .int .u64 u, z6, z7, z8, z9, z10, z11, z12, z13, z14, z15, z16, z17, vS, qp Q, undef, undef, undef, undef, undef, undef, undef, undef, z28], defers := [] } w := by
    refine wpAnyIn_ready (rs := [2, 5]) (by kernel_rfl) (by simp) ?_
    refine AllReadyIn.cons rfl (fun Kc hKc => ?_) (AllReadyIn.cons rfl (fun Kc hKc => ?_) AllReadyIn.nil)
    · go_simp
      exact hKc _ _ s11100000000
    · go_simp
      exact hKc _ _ s11000100000
  have s10000100000 : wpAnyIn (F.inRound l) n Try.prog .any (allOps ps) Q' 9 #[true, false, false, false, false, true, false, false, false, false, false] { tmps := #[z0, .pointer (some ⟨Bl, 0, none⟩), z2, z3, .pointer (some ⟨Bs, 0, none⟩), .int .u64 u, z6, z7, z8, z9, z10, z11, z12, z13, z14, z15, z16, z17, vS, undef, undef, undef, undef, .int .u64 u, undef, undef, undef, undef, z28], defers := [] } w := by
    refine wpAnyIn_ready (rs := [1]) (by kernel_rfl) (by simp) ?_
    refine AllReadyIn.cons rfl (fun Kc hKc => ?_) AllReadyIn.nil
    · go_simp
      exact hKc _ _ s11000100000
  have s01100000000 : wpAnyIn (F.inRound l) n Try.prog .any (allOps ps) Q' 9 #[false, true, true, false, false, false, false, false, false, false, false] { tmps := #[z0, .pointer (some ⟨Bl, 0, none⟩), z2, z3, .pointer (some ⟨Bs, 0, none⟩), .int .u64 u, z6, z7, z8, z9, z10, z11, z12, z13, z14, z15, z16, z17, undef, qp Q, qp Q, undef, undef, undef, undef, undef, undef, undef, z28], defers := [] } w := by
    refine wpAnyIn_ready (rs := [0, 3, 5]) (by kernel_rfl) (by simp) ?_
    refine AllReadyIn.cons rfl (fun Kc hKc => ?_) (AllReadyIn.cons rfl (fun Kc hKc => ?_) (AllReadyIn.cons rfl (fun Kc hKc => ?_) AllReadyIn.nil))
    · go_simp
      exact hKc _ _ s11100000000
    · go_simp
      exact hKc _ _ s01110000000
    · go_simp
      exact hKc _ _ s01100100000
  have s01000100000 : wpAnyIn (F.inRound l) n Try.prog .any (allOps ps) Q' 9 #[false, true, false, false, false, true, false, false, false, false, false] { tmps := #[z0, .pointer (some ⟨Bl, 0, none⟩), z2, z3, .pointer (some ⟨Bs, 0, none⟩), .int .u64 u, z6, z7, z8, z9, z10, z11, z12, z13, z14, z15, z16, z17, undef, qp Q, undef, undef, undef, .int .u64 u, undef, undef, undef, undef, z28], defers := [] } w := by
    refine wpAnyIn_ready (rs := [0, 2]) (by kernel_rfl) (by simp) ?_
    refine AllReadyIn.cons rfl (fun Kc hKc => ?_) (AllReadyIn.cons rfl (fun Kc hKc => ?_) AllReadyIn.nil)
    · go_simp
      exact hKc _ _ s11000100000
    · go_simp
      exact hKc _ _ s01100100000
  have s10000000000 : wpAnyIn (F.inRound l) n Try.prog .any (allOps ps) Q' 10 #[true, false, false, false, false, false, false, false, false, false, false] { tmps := #[z0, .pointer (some ⟨Bl, 0, none⟩), z2, z3, .pointer (some ⟨Bs, 0, none⟩), .int .u64 u, z6, z7, z8, z9, z10, z11, z12, z13, z14, z15, z16, z17, vS, undef, undef, undef, undef, undef, undef, undef, undef, undef, z28], defers := [] } w := by
    refine wpAnyIn_ready (rs := [1, 5]) (by kernel_rfl) (by simp) ?_
    refine AllReadyIn.cons rfl (fun Kc hKc => ?_) (AllReadyIn.cons rfl (fun Kc hKc => ?_) AllReadyIn.nil)
    · go_simp
      exact hKc _ _ s11000000000
    · go_simp
      exact hKc _ _ s10000100000
  have s01000000000 : wpAnyIn (F.inRound l) n Try.prog .any (allOps ps) Q' 10 #[false, true, false, false, false, false, false, false, false, false, false] { tmps := #[z0, .pointer (some ⟨Bl, 0, none⟩), z2, z3, .pointer (some ⟨Bs, 0, none⟩), .int .u64 u, z6, z7, z8, z9, z10, z11, z12, z13, z14, z15, z16, z17, undef, qp Q, undef, undef, undef, undef, undef, undef, undef, undef, z28], defers := [] } w := by
    refine wpAnyIn_ready (rs := [0, 2, 5]) (by kernel_rfl) (by simp) ?_
    refine AllReadyIn.cons rfl (fun Kc hKc => ?_) (AllReadyIn.cons rfl (fun Kc hKc => ?_) (AllReadyIn.cons rfl (fun Kc hKc => ?_) AllReadyIn.nil))
    · go_simp
      exact hKc _ _ s11000000000
    · go_simp
      exact hKc _ _ s01100000000
    · go_simp
      exact hKc _ _ s01000100000
  have s00000100000 : wpAnyIn (F.inRound l) n Try.prog .any (allOps ps) Q' 10 #[false, false, false, false, false, true, false, false, false, false, false] { tmps := #[z0, .pointer (some ⟨Bl, 0, none⟩), z2, z3, .pointer (some ⟨Bs, 0, none⟩), .int .u64 u, z6, z7, z8, z9, z10, z11, z12, z13, z14, z15, z16, z17, undef, undef, undef, undef, undef, .int .u64 u, undef, undef, undef, undef, z28], defers := [] } w := by
    refine wpAnyIn_ready (rs := [0, 1]) (by kernel_rfl) (by simp) ?_
    refine AllReadyIn.cons rfl (fun Kc hKc => ?_) (AllReadyIn.cons rfl (fun Kc hKc => ?_) AllReadyIn.nil)
    · go_simp
      exact hKc _ _ s10000100000
    · go_simp
      exact hKc _ _ s01000100000
  have s00000000000 : wpAnyIn (F.inRound l) n Try.prog .any (allOps ps) Q' 11 #[false, false, false, false, false, false, false, false, false, false, false] { tmps := #[z0, .pointer (some ⟨Bl, 0, none⟩), z2, z3, .pointer (some ⟨Bs, 0, none⟩), .int .u64 u, z6, z7, z8, z9, z10, z11, z12, z13, z14, z15, z16, z17, undef, undef, undef, undef, undef, undef, undef, undef, undef, undef, z28], defers := [] } w := by
    refine wpAnyIn_ready (rs := [0, 1, 5]) (by kernel_rfl) (by simp) ?_
    refine AllReadyIn.cons rfl (fun Kc hKc => ?_) (AllReadyIn.cons rfl (fun Kc hKc => ?_) (AllReadyIn.cons rfl (fun Kc hKc => ?_) AllReadyIn.nil))
    · go_simp
      exact hKc _ _ s10000000000
    · go_simp
      exact hKc _ _ s01000000000
    · go_simp
      exact hKc _ _ s00000100000
  refine wpIn_region_any hmo ?_
  rw [hw.out] at s00000000000
  exact s00000000000
end Go.Proofs.Ytkffmglcllhbmaa
