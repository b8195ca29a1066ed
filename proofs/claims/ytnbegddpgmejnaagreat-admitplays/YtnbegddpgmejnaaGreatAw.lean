/-
  Layer 13: the drawn region in which the line's iterator asks for a round.
-/
import Derived.Test.YtnbegddpgmejnaaGreatAa
import Derived.Test.YtnbegddpgmejnaaGreatVa
import Derived.LaidMore
import Derived.BigQuiet
namespace Go.Proofs.YtnbegddpgmejnaaGreat
open Go.RowKit


attribute [local go_sem] Oper.semAt_some
abbrev standOps (ps : String) : Array Oper := #[{ dst := some 12, op := Op.load 117 (Operand.tmp 2), type := 117, pos := ps, after := #[], guard := none }, { dst := some 13, op := Op.move (Operand.tmp 3), type := 44, pos := ps, after := #[], guard := none }, { dst := some 14, op := Op.load 26 (Operand.tmp 1), type := 26, pos := ps, after := #[], guard := none }, { dst := some 15, op := Op.nilCheck (Operand.tmp 14), type := 0, pos := ps, after := #[{ on := 2, ground := Ground.data }], guard := none }, { dst := some 16, op := Op.fieldAddr 67 (Operand.tmp 15) 4, type := 0, pos := ps, after := #[{ on := 3, ground := Ground.data }], guard := none }, { dst := some 17, op := Op.load 65 (Operand.tmp 16), type := 65, pos := ps, after := #[{ on := 4, ground := Ground.data }], guard := none }, { dst := some 18, op := Op.move (Operand.tmp 3), type := 44, pos := ps, after := #[], guard := none }, { dst := some 19, op := Op.lookup 65 (Operand.tmp 17) (Operand.tmp 18) false, type := 43, pos := ps, after := #[{ on := 5, ground := Ground.data }, { on := 6, ground := Ground.data }], guard := none }, { dst := some 20, op := Op.call { callee := Callee.value (Operand.tmp 12), args := #[Operand.tmp 13, Operand.tmp 19], argTypes := #[44, 43] }, type := 4, pos := ps, after := #[{ on := 0, ground := Ground.data }, { on := 1, ground := Ground.data }, { on := 7, ground := Ground.data }], guard := none }, { dst := some 21, op := Op.unOp UnOp.not 4 (Operand.tmp 20), type := 4, pos := ps, after := #[{ on := 8, ground := Ground.data }], guard := none }]
set_option maxHeartbeats 4000000 in
set_option maxRecDepth 100000 in
theorem stand_region {ps : String} {F : Fence} {l n : Nat} {Q' : Exit → Act → World → Prop} (w0 : World) (id Bl By Q mb : Nat) (y : Value) (u : Int) (p : Option Addr) (nn cc : Nat) (z0 z4 z5 z6 z7 z8 z9 z10 z11 : Value) (w : World) (hw : Hid (w = w0.drew))
    (kl : w.cell? ⟨Bl, 0, none⟩ = some (qp Q)) (ky : w.cell? ⟨By, 0, none⟩ = some y) (k8 : w.cell? ⟨Q, 8, none⟩ = some (.map (some mb)))
    (hlk : (Instr.lookup 65 (.map (some mb)) (.int .u64 u) false).run Tryz.prog w = .ok (.slice p nn cc) w)
    (s11111111 : wpAnyIn (F.inRound l) n Tryz.prog .any (standOps ps) Q' 2 #[true, true, true, true, true, true, true, true, false, false] { tmps := #[z0, .pointer (some ⟨Bl, 0, none⟩), .pointer (some ⟨By, 0, none⟩), .int .u64 u, z4, z5, z6, z7, z8, z9, z10, z11, y, .int .u64 u, qp Q, qp Q, .pointer (some ⟨Q, 8, none⟩), .map (some mb), .int .u64 u, .slice p nn cc, undef, undef], defers := [] } w) :
    (Code.region id (standOps ps) true).wpIn (F.inRound l) n Tryz.prog Q' { tmps := #[z0, .pointer (some ⟨Bl, 0, none⟩), .pointer (some ⟨By, 0, none⟩), .int .u64 u, z4, z5, z6, z7, z8, z9, z10, z11, undef, undef, undef, undef, undef, undef, undef, undef, undef, undef], defers := [] } w0 := by
  have hmo : Tryz.prog.follows Departure.mixedOrders = true := by kernel_rfl
  have s11111110 : wpAnyIn (F.inRound l) n Tryz.prog .any (standOps ps) Q' 3 #[true, true, true, true, true, true, true, false, false, false] { tmps := #[z0, .pointer (some ⟨Bl, 0, none⟩), .pointer (some ⟨By, 0, none⟩), .int .u64 u, z4, z5, z6, z7, z8, z9, z10, z11, y, .int .u64 u, qp Q, qp Q, .pointer (some ⟨Q, 8, none⟩), .map (some mb), .int .u64 u, undef, undef, undef], defers := [] } w := by
    refine wpAnyIn_ready (rs := [7]) (by kernel_rfl) (by simp) ?_
    refine AllReadyIn.cons rfl (fun Kc hKc => ?_) AllReadyIn.nil
    · go_simp
      exact hKc _ _ s11111111
  have s10111111 : wpAnyIn (F.inRound l) n Tryz.prog .any (standOps ps) Q' 3 #[true, false, true, true, true, true, true, true, false, false] { tmps := #[z0, .pointer (some ⟨Bl, 0, none⟩), .pointer (some ⟨By, 0, none⟩), .int .u64 u, z4, z5, z6, z7, z8, z9, z10, z11, y, undef, qp Q, qp Q, .pointer (some ⟨Q, 8, none⟩), .map (some mb), .int .u64 u, .slice p nn cc, undef, undef], defers := [] } w := by
    refine wpAnyIn_ready (rs := [1]) (by kernel_rfl) (by simp) ?_
    refine AllReadyIn.cons rfl (fun Kc hKc => ?_) AllReadyIn.nil
    · go_simp
      exact hKc _ _ s11111111
  have s01111111 : wpAnyIn (F.inRound l) n Tryz.prog .any (standOps ps) Q' 3 #[false, true, true, true, true, true, true, true, false, false] { tmps := #[z0, .pointer (some ⟨Bl, 0, none⟩), .pointer (some ⟨By, 0, none⟩), .int .u64 u, z4, z5, z6, z7, z8, z9, z10, z11, undef, .int .u64 u, qp Q, qp Q, .pointer (some ⟨Q, 8, none⟩), .map (some mb), .int .u64 u, .slice p nn cc, undef, undef], defers := [] } w := by
    refine wpAnyIn_ready (rs := [0]) (by kernel_rfl) (by simp) ?_
    refine AllReadyIn.cons rfl (fun Kc hKc => ?_) AllReadyIn.nil
    · go_simp
      exact hKc _ _ s11111111
  have s11111100 : wpAnyIn (F.inRound l) n Tryz.prog .any (standOps ps) Q' 4 #[true, true, true, true, true, true, false, false, false, false] { tmps := #[z0, .pointer (some ⟨Bl, 0, none⟩), .pointer (some ⟨By, 0, none⟩), .int .u64 u, z4, z5, z6, z7, z8, z9, z10, z11, y, .int .u64 u, qp Q, qp Q, .pointer (some ⟨Q, 8, none⟩), .map (some mb), undef, undef, undef, undef], defers := [] } w := by
    refine wpAnyIn_ready (rs := [6]) (by kernel_rfl) (by simp) ?_
    refine AllReadyIn.cons rfl (fun Kc hKc => ?_) AllReadyIn.nil
    · go_simp
      exact hKc _ _ s11111110
  have s11111010 : wpAnyIn (F.inRound l) n Tryz.prog .any (standOps ps) Q' 4 #[true, true, true, true, true, false, true, false, false, false] { tmps := #[z0, .pointer (some ⟨Bl, 0, none⟩), .pointer (some ⟨By, 0, none⟩), .int .u64 u, z4, z5, z6, z7, z8, z9, z10, z11, y, .int .u64 u, qp Q, qp Q, .pointer (some ⟨Q, 8, none⟩), undef, .int .u64 u, undef, undef, undef], defers := [] } w := by
    refine wpAnyIn_ready (rs := [5]) (by kernel_rfl) (by simp) ?_
    refine AllReadyIn.cons rfl (fun Kc hKc => ?_) AllReadyIn.nil
    · go_simp
      exact hKc _ _ s11111110
  have s10111110 : wpAnyIn (F.inRound l) n Tryz.prog .any (standOps ps) Q' 4 #[true, false, true, true, true, true, true, false, false, false] { tmps := #[z0, .pointer (some ⟨Bl, 0, none⟩), .pointer (some ⟨By, 0, none⟩), .int .u64 u, z4, z5, z6, z7, z8, z9, z10, z11, y, undef, qp Q, qp Q, .pointer (some ⟨Q, 8, none⟩), .map (some mb), .int .u64 u, undef, undef, undef], defers := [] } w := by
    refine wpAnyIn_ready (rs := [1, 7]) (by kernel_rfl) (by simp) ?_
    refine AllReadyIn.cons rfl (fun Kc hKc => ?_) (AllReadyIn.cons rfl (fun Kc hKc => ?_) AllReadyIn.nil)
    · go_simp
      exact hKc _ _ s11111110
    · go_simp
      exact hKc _ _ s10111111
  have s01111110 : wpAnyIn (F.inRound l) n Tryz.prog .any (standOps ps) Q' 4 #[false, true, true, true, true, true, true, false, false, false] { tmps := #[z0, .pointer (some ⟨Bl, 0, none⟩), .pointer (some ⟨By, 0, none⟩), .int .u64 u, z4, z5, z6, z7, z8, z9, z10, z11, undef, .int .u64 u, qp Q, qp Q, .pointer (some ⟨Q, 8, none⟩), .map (some mb), .int .u64 u, undef, undef, undef], defers := [] } w := by
    refine wpAnyIn_ready (rs := [0, 7]) (by kernel_rfl) (by simp) ?_
    refine AllReadyIn.cons rfl (fun Kc hKc => ?_) (AllReadyIn.cons rfl (fun Kc hKc => ?_) AllReadyIn.nil)
    · go_simp
      exact hKc _ _ s11111110
    · go_simp
      exact hKc _ _ s01111111
  have s00111111 : wpAnyIn (F.inRound l) n Tryz.prog .any (standOps ps) Q' 4 #[false, false, true, true, true, true, true, true, false, false] { tmps := #[z0, .pointer (some ⟨Bl, 0, none⟩), .pointer (some ⟨By, 0, none⟩), .int .u64 u, z4, z5, z6, z7, z8, z9, z10, z11, undef, undef, qp Q, qp Q, .pointer (some ⟨Q, 8, none⟩), .map (some mb), .int .u64 u, .slice p nn cc, undef, undef], defers := [] } w := by
    refine wpAnyIn_ready (rs := [0, 1]) (by kernel_rfl) (by simp) ?_
    refine AllReadyIn.cons rfl (fun Kc hKc => ?_) (AllReadyIn.cons rfl (fun Kc hKc => ?_) AllReadyIn.nil)
    · go_simp
      exact hKc _ _ s10111111
    · go_simp
      exact hKc _ _ s01111111
  have s11111000 : wpAnyIn (F.inRound l) n Tryz.prog .any (standOps ps) Q' 5 #[true, true, true, true, true, false, false, false, false, false] { tmps := #[z0, .pointer (some ⟨Bl, 0, none⟩), .pointer (some ⟨By, 0, none⟩), .int .u64 u, z4, z5, z6, z7, z8, z9, z10, z11, y, .int .u64 u, qp Q, qp Q, .pointer (some ⟨Q, 8, none⟩), undef, undef, undef, undef, undef], defers := [] } w := by
    refine wpAnyIn_ready (rs := [5, 6]) (by kernel_rfl) (by simp) ?_
    refine AllReadyIn.cons rfl (fun Kc hKc => ?_) (AllReadyIn.cons rfl (fun Kc hKc => ?_) AllReadyIn.nil)
    · go_simp
      exact hKc _ _ s11111100
    · go_simp
      exact hKc _ _ s11111010
  have s11110010 : wpAnyIn (F.inRound l) n Tryz.prog .any (standOps ps) Q' 5 #[true, true, true, true, false, false, true, false, false, false] { tmps := #[z0, .pointer (some ⟨Bl, 0, none⟩), .pointer (some ⟨By, 0, none⟩), .int .u64 u, z4, z5, z6, z7, z8, z9, z10, z11, y, .int .u64 u, qp Q, qp Q, undef, undef, .int .u64 u, undef, undef, undef], defers := [] } w := by
    refine wpAnyIn_ready (rs := [4]) (by kernel_rfl) (by simp) ?_
    refine AllReadyIn.cons rfl (fun Kc hKc => ?_) AllReadyIn.nil
    · go_simp
      exact hKc _ _ s11111010
  have s10111100 : wpAnyIn (F.inRound l) n Tryz.prog .any (standOps ps) Q' 5 #[true, false, true, true, true, true, false, false, false, false] { tmps := #[z0, .pointer (some ⟨Bl, 0, none⟩), .pointer (some ⟨By, 0, none⟩), .int .u64 u, z4, z5, z6, z7, z8, z9, z10, z11, y, undef, qp Q, qp Q, .pointer (some ⟨Q, 8, none⟩), .map (some mb), undef, undef, undef, undef], defers := [] } w := by
    refine wpAnyIn_ready (rs := [1, 6]) (by kernel_rfl) (by simp) ?_
    refine AllReadyIn.cons rfl (fun Kc hKc => ?_) (AllReadyIn.cons rfl (fun Kc hKc => ?_) AllReadyIn.nil)
    · go_simp
      exact hKc _ _ s11111100
    · go_simp
      exact hKc _ _ s10111110
  have s10111010 : wpAnyIn (F.inRound l) n Tryz.prog .any (standOps ps) Q' 5 #[true, false, true, true, true, false, true, false, false, false] { tmps := #[z0, .pointer (some ⟨Bl, 0, none⟩), .pointer (some ⟨By, 0, none⟩), .int .u64 u, z4, z5, z6, z7, z8, z9, z10, z11, y, undef, qp Q, qp Q, .pointer (some ⟨Q, 8, none⟩), undef, .int .u64 u, undef, undef, undef], defers := [] } w := by
    refine wpAnyIn_ready (rs := [1, 5]) (by kernel_rfl) (by simp) ?_
    refine AllReadyIn.cons rfl (fun Kc hKc => ?_) (AllReadyIn.cons rfl (fun Kc hKc => ?_) AllReadyIn.nil)
    · go_simp
      exact hKc _ _ s11111010
    · go_simp
      exact hKc _ _ s10111110
  have s01111100 : wpAnyIn (F.inRound l) n Tryz.prog .any (standOps ps) Q' 5 #[false, true, true, true, true, true, false, false, false, false] { tmps := #[z0, .pointer (some ⟨Bl, 0, none⟩), .pointer (some ⟨By, 0, none⟩), .int .u64 u, z4, z5, z6, z7, z8, z9, z10, z11, undef, .int .u64 u, qp Q, qp Q, .pointer (some ⟨Q, 8, none⟩), .map (some mb), undef, undef, undef, undef], defers := [] } w := by
    refine wpAnyIn_ready (rs := [0, 6]) (by kernel_rfl) (by simp) ?_
    refine AllReadyIn.cons rfl (fun Kc hKc => ?_) (AllReadyIn.cons rfl (fun Kc hKc => ?_) AllReadyIn.nil)
    · go_simp
      exact hKc _ _ s11111100
    · go_simp
      exact hKc _ _ s01111110
  have s01111010 : wpAnyIn (F.inRound l) n Tryz.prog .any (standOps ps) Q' 5 #[false, true, true, true, true, false, true, false, false, false] { tmps := #[z0, .pointer (some ⟨Bl, 0, none⟩), .pointer (some ⟨By, 0, none⟩), .int .u64 u, z4, z5, z6, z7, z8, z9, z10, z11, undef, .int .u64 u, qp Q, qp Q, .pointer (some ⟨Q, 8, none⟩), undef, .int .u64 u, undef, undef, undef], defers := [] } w := by
    refine wpAnyIn_ready (rs := [0, 5]) (by kernel_rfl) (by simp) ?_
    refine AllReadyIn.cons rfl (fun Kc hKc => ?_) (AllReadyIn.cons rfl (fun Kc hKc => ?_) AllReadyIn.nil)
    · go_simp
      exact hKc _ _ s11111010
    · go_simp
      exact hKc _ _ s01111110
  have s00111110 : wpAnyIn (F.inRound l) n Tryz.prog .any (standOps ps) Q' 5 #[false, false, true, true, true, true, true, false, false, false] { tmps := #[z0, .pointer (some ⟨Bl, 0, none⟩), .pointer (some ⟨By, 0, none⟩), .int .u64 u, z4, z5, z6, z7, z8, z9, z10, z11, undef, undef, qp Q, qp Q, .pointer (some ⟨Q, 8, none⟩), .map (some mb), .int .u64 u, undef, undef, undef], defers := [] } w := by
    refine wpAnyIn_ready (rs := [0, 1, 7]) (by kernel_rfl) (by simp) ?_
    refine AllReadyIn.cons rfl (fun Kc hKc => ?_) (AllReadyIn.cons rfl (fun Kc hKc => ?_) (AllReadyIn.cons rfl (fun Kc hKc => ?_) AllReadyIn.nil))
    · go_simp
      exact hKc _ _ s10111110
    · go_simp
      exact hKc _ _ s01111110
    · go_simp
      exact hKc _ _ s00111111
  have s11110000 : wpAnyIn (F.inRound l) n Tryz.prog .any (standOps ps) Q' 6 #[true, true, true, true, false, false, false, false, false, false] { tmps := #[z0, .pointer (some ⟨Bl, 0, none⟩), .pointer (some ⟨By, 0, none⟩), .int .u64 u, z4, z5, z6, z7, z8, z9, z10, z11, y, .int .u64 u, qp Q, qp Q, undef, undef, undef, undef, undef, undef], defers := [] } w := by
    refine wpAnyIn_ready (rs := [4, 6]) (by kernel_rfl) (by simp) ?_
    refine AllReadyIn.cons rfl (fun Kc hKc => ?_) (AllReadyIn.cons rfl (fun Kc hKc => ?_) AllReadyIn.nil)
    · go_simp
      exact hKc _ _ s11111000
    · go_simp
      exact hKc _ _ s11110010
  have s11100010 : wpAnyIn (F.inRound l) n Tryz.prog .any (standOps ps) Q' 6 #[true, true, true, false, false, false, true, false, false, false] { tmps := #[z0, .pointer (some ⟨Bl, 0, none⟩), .pointer (some ⟨By, 0, none⟩), .int .u64 u, z4, z5, z6, z7, z8, z9, z10, z11, y, .int .u64 u, qp Q, undef, undef, undef, .int .u64 u, undef, undef, undef], defers := [] } w := by
    refine wpAnyIn_ready (rs := [3]) (by kernel_rfl) (by simp) ?_
    refine AllReadyIn.cons rfl (fun Kc hKc => ?_) AllReadyIn.nil
    · go_simp
      exact hKc _ _ s11110010
  have s10111000 : wpAnyIn (F.inRound l) n Tryz.prog .any (standOps ps) Q' 6 #[true, false, true, true, true, false, false, false, false, false] { tmps := #[z0, .pointer (some ⟨Bl, 0, none⟩), .pointer (some ⟨By, 0, none⟩), .int .u64 u, z4, z5, z6, z7, z8, z9, z10, z11, y, undef, qp Q, qp Q, .pointer (some ⟨Q, 8, none⟩), undef, undef, undef, undef, undef], defers := [] } w := by
    refine wpAnyIn_ready (rs := [1, 5, 6]) (by kernel_rfl) (by simp) ?_
    refine AllReadyIn.cons rfl (fun Kc hKc => ?_) (AllReadyIn.cons rfl (fun Kc hKc => ?_) (AllReadyIn.cons rfl (fun Kc hKc => ?_) AllReadyIn.nil))
    · go_simp
      exact hKc _ _ s11111000
    · go_simp
      exact hKc _ _ s10111100
    · go_simp
      exact hKc _ _ s10111010
  have s10110010 : wpAnyIn (F.inRound l) n Tryz.prog .any (standOps ps) Q' 6 #[true, false, true, true, false, false, true, false, false, false] { tmps := #[z0, .pointer (some ⟨Bl, 0, none⟩), .pointer (some ⟨By, 0, none⟩), .int .u64 u, z4, z5, z6, z7, z8, z9, z10, z11, y, undef, qp Q, qp Q, undef, undef, .int .u64 u, undef, undef, undef], defers := [] } w := by
    refine wpAnyIn_ready (rs := [1, 4]) (by kernel_rfl) (by simp) ?_
    refine AllReadyIn.cons rfl (fun Kc hKc => ?_) (AllReadyIn.cons rfl (fun Kc hKc => ?_) AllReadyIn.nil)
    · go_simp
      exact hKc _ _ s11110010
    · go_simp
      exact hKc _ _ s10111010
  have s01111000 : wpAnyIn (F.inRound l) n Tryz.prog .any (standOps ps) Q' 6 #[false, true, true, true, true, false, false, false, false, false] { tmps := #[z0, .pointer (some ⟨Bl, 0, none⟩), .pointer (some ⟨By, 0, none⟩), .int .u64 u, z4, z5, z6, z7, z8, z9, z10, z11, undef, .int .u64 u, qp Q, qp Q, .pointer (some ⟨Q, 8, none⟩), undef, undef, undef, undef, undef], defers := [] } w := by
    refine wpAnyIn_ready (rs := [0, 5, 6]) (by kernel_rfl) (by simp) ?_
    refine AllReadyIn.cons rfl (fun Kc hKc => ?_) (AllReadyIn.cons rfl (fun Kc hKc => ?_) (AllReadyIn.cons rfl (fun Kc hKc => ?_) AllReadyIn.nil))
    · go_simp
      exact hKc _ _ s11111000
    · go_simp
      exact hKc _ _ s01111100
    · go_simp
      exact hKc _ _ s01111010
  have s01110010 : wpAnyIn (F.inRound l) n Tryz.prog .any (standOps ps) Q' 6 #[false, true, true, true, false, false, true, false, false, false] { tmps := #[z0, .pointer (some ⟨Bl, 0, none⟩), .pointer (some ⟨By, 0, none⟩), .int .u64 u, z4, z5, z6, z7, z8, z9, z10, z11, undef, .int .u64 u, qp Q, qp Q, undef, undef, .int .u64 u, undef, undef, undef], defers := [] } w := by
    refine wpAnyIn_ready (rs := [0, 4]) (by kernel_rfl) (by simp) ?_
    refine AllReadyIn.cons rfl (fun Kc hKc => ?_) (AllReadyIn.cons rfl (fun Kc hKc => ?_) AllReadyIn.nil)
    · go_simp
      exact hKc _ _ s11110010
    · go_simp
      exact hKc _ _ s01111010
  have s00111100 : wpAnyIn (F.inRound l) n Tryz.prog .any (standOps ps) Q' 6 #[false, false, true, true, true, true, false, false, false, false] { tmps := #[z0, .pointer (some ⟨Bl, 0, none⟩), .pointer (some ⟨By, 0, none⟩), .int .u64 u, z4, z5, z6, z7, z8, z9, z10, z11, undef, undef, qp Q, qp Q, .pointer (some ⟨Q, 8, none⟩), .map (some mb), undef, undef, undef, undef], defers := [] } w := by
    refine wpAnyIn_ready (rs := [0, 1, 6]) (by kernel_rfl) (by simp) ?_
    refine AllReadyIn.cons rfl (fun Kc hKc => ?_) (AllReadyIn.cons rfl (fun Kc hKc => ?_) (AllReadyIn.cons rfl (fun Kc hKc => ?_) AllReadyIn.nil))
    · go_simp
      exact hKc _ _ s10111100
    · go_simp
      exact hKc _ _ s01111100
    · go_simp
      exact hKc _ _ s00111110
  have s00111010 : wpAnyIn (F.inRound l) n Tryz.prog .any (standOps ps) Q' 6 #[false, false, true, true, true, false, true, false, false, false] { tmps := #[z0, .pointer (some ⟨Bl, 0, none⟩), .pointer (some ⟨By, 0, none⟩), .int .u64 u, z4, z5, z6, z7, z8, z9, z10, z11, undef, undef, qp Q, qp Q, .pointer (some ⟨Q, 8, none⟩), undef, .int .u64 u, undef, undef, undef], defers := [] } w := by
    refine wpAnyIn_ready (rs := [0, 1, 5]) (by kernel_rfl) (by simp) ?_
    refine AllReadyIn.cons rfl (fun Kc hKc => ?_) (AllReadyIn.cons rfl (fun Kc hKc => ?_) (AllReadyIn.cons rfl (fun Kc hKc => ?_) AllReadyIn.nil))
    · go_simp
      exact hKc _ _ s10111010
    · go_simp
      exact hKc _ _ s01111010
    · go_simp
      exact hKc _ _ s00111110
  have s11100000 : wpAnyIn (F.inRound l) n Tryz.prog .any (standOps ps) Q' 7 #[true, true, true, false, false, false, false, false, false, false] { tmps := #[z0, .pointer (some ⟨Bl, 0, none⟩), .pointer (some ⟨By, 0, none⟩), .int .u64 u, z4, z5, z6, z7, z8, z9, z10, z11, y, .int .u64 u, qp Q, undef, undef, undef, undef, undef, undef, undef], defers := [] } w := by
    refine wpAnyIn_ready (rs := [3, 6]) (by kernel_rfl) (by simp) ?_
    refine AllReadyIn.cons rfl (fun Kc hKc => ?_) (AllReadyIn.cons rfl (fun Kc hKc => ?_) AllReadyIn.nil)
    · go_simp
      exact hKc _ _ s11110000
    · go_simp
      exact hKc _ _ s11100010
  have s11000010 : wpAnyIn (F.inRound l) n Tryz.prog .any (standOps ps) Q' 7 #[true, true, false, false, false, false, true, false, false, false] { tmps := #[z0, .pointer (some ⟨Bl, 0, none⟩), .pointer (some ⟨By, 0, none⟩), .int .u64 u, z4, z5, z6, z7, z8, z9, z10, z11, y, .int .u64 u, undef, undef, undef, undef, .int .u64 u, undef, undef, undef], defers := [] } w := by
    refine wpAnyIn_ready (rs := [2]) (by kernel_rfl) (by simp) ?_
    refine AllReadyIn.cons rfl (fun Kc hKc => ?_) AllReadyIn.nil
    · go_simp
      exact hKc _ _ s11100010
  have s10110000 : wpAnyIn (F.inRound l) n Tryz.prog .any (standOps ps) Q' 7 #[true, false, true, true, false, false, false, false, false, false] { tmps := #[z0, .pointer (some ⟨Bl, 0, none⟩), .pointer (some ⟨By, 0, none⟩), .int .u64 u, z4, z5, z6, z7, z8, z9, z10, z11, y, undef, qp Q, qp Q, undef, undef, undef, undef, undef, undef], defers := [] } w := by
    refine wpAnyIn_ready (rs := [1, 4, 6]) (by kernel_rfl) (by simp) ?_
    refine AllReadyIn.cons rfl (fun Kc hKc => ?_) (AllReadyIn.cons rfl (fun Kc hKc => ?_) (AllReadyIn.cons rfl (fun Kc hKc => ?_) AllReadyIn.nil))
    · go_simp
      exact hKc _ _ s11110000
    · go_simp
      exact hKc _ _ s10111000
    · go_simp
      exact hKc _ _ s10110010
  have s10100010 : wpAnyIn (F.inRound l) n Tryz.prog .any (standOps ps) Q' 7 #[true, false, true, false, false, false, true, false, false, false] { tmps := #[z0, .pointer (some ⟨Bl, 0, none⟩), .pointer (some ⟨By, 0, none⟩), .int .u64 u, z4, z5, z6, z7, z8, z9, z10, z11, y, undef, qp Q, undef, undef, undef, .int .u64 u, undef, undef, undef], defers := [] } w := by
    refine wpAnyIn_ready (rs := [1, 3]) (by kernel_rfl) (by simp) ?_
    refine AllReadyIn.cons rfl (fun Kc hKc => ?_) (AllReadyIn.cons rfl (fun Kc hKc => ?_) AllReadyIn.nil)
    · go_simp
      exact hKc _ _ s11100010
    · go_simp
      exact hKc _ _ s10110010
  have s01110000 : wpAnyIn (F.inRound l) n Tryz.prog .any (standOps ps) Q' 7 #[false, true, true, true, false, false, false, false, false, false] { tmps := #[z0, .pointer (some ⟨Bl, 0, none⟩), .pointer (some ⟨By, 0, none⟩), .int .u64 u, z4, z5, z6, z7, z8, z9, z10, z11, undef, .int .u64 u, qp Q, qp Q, undef, undef, undef, undef, undef, undef], defers := [] } w := by
    refine wpAnyIn_ready (rs := [0, 4, 6]) (by kernel_rfl) (by simp) ?_
    refine AllReadyIn.cons rfl (fun Kc hKc => ?_) (AllReadyIn.cons rfl (fun Kc hKc => ?_) (AllReadyIn.cons rfl (fun Kc hKc => ?_) AllReadyIn.nil))
    · go_simp
      exact hKc _ _ s11110000
    · go_simp
      exact hKc _ _ s01111000
    · go_simp
      exact hKc _ _ s01110010
  have s01100010 : wpAnyIn (F.inRound l) n Tryz.prog .any (standOps ps) Q' 7 #[false, true, true, false, false, false, true, false, false, false] { tmps := #[z0, .pointer (some ⟨Bl, 0, none⟩), .pointer (some ⟨By, 0, none⟩), .int .u64 u, z4, z5, z6, z7, z8, z9, z10, z11, undef, .int .u64 u, qp Q, undef, undef, undef, .int .u64 u, undef, undef, undef], defers := [] } w := by
    refine wpAnyIn_ready (rs := [0, 3]) (by kernel_rfl) (by simp) ?_
    refine AllReadyIn.cons rfl (fun Kc hKc => ?_) (AllReadyIn.cons rfl (fun Kc hKc => ?_) AllReadyIn.nil)
    · go_simp
      exact hKc _ _ s11100010
    · go_simp
      exact hKc _ _ s01110010
  have s00111000 : wpAnyIn (F.inRound l) n Tryz.prog .any (standOps ps) Q' 7 #[false, false, true, true, true, false, false, false, false, false] { tmps := #[z0, .pointer (some ⟨Bl, 0, none⟩), .pointer (some ⟨By, 0, none⟩), .int .u64 u, z4, z5, z6, z7, z8, z9, z10, z11, undef, undef, qp Q, qp Q, .pointer (some ⟨Q, 8, none⟩), undef, undef, undef, undef, undef], defers := [] } w := by
    refine wpAnyIn_ready (rs := [0, 1, 5, 6]) (by kernel_rfl) (by simp) ?_
    refine AllReadyIn.cons rfl (fun Kc hKc => ?_) (AllReadyIn.cons rfl (fun Kc hKc => ?_) (AllReadyIn.cons rfl (fun Kc hKc => ?_) (AllReadyIn.cons rfl (fun Kc hKc => ?_) AllReadyIn.nil)))
    · go_simp
      exact hKc _ _ s10111000
    · go_simp
      exact hKc _ _ s01111000
    · go_simp
      exact hKc _ _ s00111100
    · go_simp
      exact hKc _ _ s00111010
  have s00110010 : wpAnyIn (F.inRound l) n Tryz.prog .any (standOps ps) Q' 7 #[false, false, true, true, false, false, true, false, false, false] { tmps := #[z0, .pointer (some ⟨Bl, 0, none⟩), .pointer (some ⟨By, 0, none⟩), .int .u64 u, z4, z5, z6, z7, z8, z9, z10, z11, undef, undef, qp Q, qp Q, undef, undef, .int .u64 u, undef, undef, undef], defers := [] } w := by
    refine wpAnyIn_ready (rs := [0, 1, 4]) (by kernel_rfl) (by simp) ?_
    refine AllReadyIn.cons rfl (fun Kc hKc => ?_) (AllReadyIn.cons rfl (fun Kc hKc => ?_) (AllReadyIn.cons rfl (fun Kc hKc => ?_) AllReadyIn.nil))
    · go_simp
      exact hKc _ _ s10110010
    · go_simp
      exact hKc _ _ s01110010
    · go_simp
      exact hKc _ _ s00111010
  have s11000000 : wpAnyIn (F.inRound l) n Tryz.prog .any (standOps ps) Q' 8 #[true, true, false, false, false, false, false, false, false, false] { tmps := #[z0, .pointer (some ⟨Bl, 0, none⟩), .pointer (some ⟨By, 0, none⟩), .int .u64 u, z4, z5, z6, z7, z8, z9, z10, z11, y, .int .u64 u, undef, undef, undef, undef, undef, undef, undef, undef], defers := [] } w := by
    refine wpAnyIn_ready (rs := [2, 6]) (by kernel_rfl) (by simp) ?_
    refine AllReadyIn.cons rfl (fun Kc hKc => ?_) (AllReadyIn.cons rfl (fun Kc hKc => ?_) AllReadyIn.nil)
    · go_simp
      exact hKc _ _ s11100000
    · go_simp
      exact hKc _ _ s11000010
  have s10100000 : wpAnyIn (F.inRound l) n Tryz.prog .any (standOps ps) Q' 8 #[true, false, true, false, false, false, false, false, false, false] { tmps := #[z0, .pointer (some ⟨Bl, 0, none⟩), .pointer (some ⟨By, 0, none⟩), .int .u64 u, z4, z5, z6, z7, z8, z9, z10, z11, y, undef, qp Q, undef, undef, undef, undef, undef, undef, undef], defers := [] } w := by
    refine wpAnyIn_ready (rs := [1, 3, 6]) (by kernel_rfl) (by simp) ?_
    refine AllReadyIn.cons rfl (fun Kc hKc => ?_) (AllReadyIn.cons rfl (fun Kc hKc => ?_) (AllReadyIn.cons rfl (fun Kc hKc => ?_) AllReadyIn.nil))
    · go_simp
      exact hKc _ _ s11100000
    · go_simp
      exact hKc _ _ s10110000
    · go_simp
      exact hKc _ _ s10100010
  have s10000010 : wpAnyIn (F.inRound l) n Tryz.prog .any (standOps ps) Q' 8 #[true, false, false, false, false, false, true, false, false, false] { tmps := #[z0, .pointer (some ⟨Bl, 0, none⟩), .pointer (some ⟨By, 0, none⟩), .int .u64 u, z4, z5, z6, z7, z8, z9, z10, z11, y, undef, undef, undef, undef, undef, .int .u64 u, undef, undef, undef], defers := [] } w := by
    refine wpAnyIn_ready (rs := [1, 2]) (by kernel_rfl) (by simp) ?_
    refine AllReadyIn.cons rfl (fun Kc hKc => ?_) (AllReadyIn.cons rfl (fun Kc hKc => ?_) AllReadyIn.nil)
    · go_simp
      exact hKc _ _ s11000010
    · go_simp
      exact hKc _ _ s10100010
  have s01100000 : wpAnyIn (F.inRound l) n Tryz.prog .any (standOps ps) Q' 8 #[false, true, true, false, false, false, false, false, false, false] { tmps := #[z0, .pointer (some ⟨Bl, 0, none⟩), .pointer (some ⟨By, 0, none⟩), .int .u64 u, z4, z5, z6, z7, z8, z9, z10, z11, undef, .int .u64 u, qp Q, undef, undef, undef, undef, undef, undef, undef], defers := [] } w := by
    refine wpAnyIn_ready (rs := [0, 3, 6]) (by kernel_rfl) (by simp) ?_
    refine AllReadyIn.cons rfl (fun Kc hKc => ?_) (AllReadyIn.cons rfl (fun Kc hKc => ?_) (AllReadyIn.cons rfl (fun Kc hKc => ?_) AllReadyIn.nil))
    · go_simp
      exact hKc _ _ s11100000
    · go_simp
      exact hKc _ _ s01110000
    · go_simp
      exact hKc _ _ s01100010
  have s01000010 : wpAnyIn (F.inRound l) n Tryz.prog .any (standOps ps) Q' 8 #[false, true, false, false, false, false, true, false, false, false] { tmps := #[z0, .pointer (some ⟨Bl, 0, none⟩), .pointer (some ⟨By, 0, none⟩), .int .u64 u, z4, z5, z6, z7, z8, z9, z10, z11, undef, .int .u64 u, undef, undef, undef, undef, .int .u64 u, undef, undef, undef], defers := [] } w := by
    refine wpAnyIn_ready (rs := [0, 2]) (by kernel_rfl) (by simp) ?_
    refine AllReadyIn.cons rfl (fun Kc hKc => ?_) (AllReadyIn.cons rfl (fun Kc hKc => ?_) AllReadyIn.nil)
    · go_simp
      exact hKc _ _ s11000010
    · go_simp
      exact hKc _ _ s01100010
  have s00110000 : wpAnyIn (F.inRound l) n Tryz.prog .any (standOps ps) Q' 8 #[false, false, true, true, false, false, false, false, false, false] { tmps := #[z0, .pointer (some ⟨Bl, 0, none⟩), .pointer (some ⟨By, 0, none⟩), .int .u64 u, z4, z5, z6, z7, z8, z9, z10, z11, undef, undef, qp Q, qp Q, undef, undef, undef, undef, undef, undef], defers := [] } w := by
    refine wpAnyIn_ready (rs := [0, 1, 4, 6]) (by kernel_rfl) (by simp) ?_
    refine AllReadyIn.cons rfl (fun Kc hKc => ?_) (AllReadyIn.cons rfl (fun Kc hKc => ?_) (AllReadyIn.cons rfl (fun Kc hKc => ?_) (AllReadyIn.cons rfl (fun Kc hKc => ?_) AllReadyIn.nil)))
    · go_simp
      exact hKc _ _ s10110000
    · go_simp
      exact hKc _ _ s01110000
    · go_simp
      exact hKc _ _ s00111000
    · go_simp
      exact hKc _ _ s00110010
  have s00100010 : wpAnyIn (F.inRound l) n Tryz.prog .any (standOps ps) Q' 8 #[false, false, true, false, false, false, true, false, false, false] { tmps := #[z0, .pointer (some ⟨Bl, 0, none⟩), .pointer (some ⟨By, 0, none⟩), .int .u64 u, z4, z5, z6, z7, z8, z9, z10, z11, undef, undef, qp Q, undef, undef, undef, .int .u64 u, undef, undef, undef], defers := [] } w := by
    refine wpAnyIn_ready (rs := [0, 1, 3]) (by kernel_rfl) (by simp) ?_
    refine AllReadyIn.cons rfl (fun Kc hKc => ?_) (AllReadyIn.cons rfl (fun Kc hKc => ?_) (AllReadyIn.cons rfl (fun Kc hKc => ?_) AllReadyIn.nil))
    · go_simp
      exact hKc _ _ s10100010
    · go_simp
      exact hKc _ _ s01100010
    · go_simp
      exact hKc _ _ s00110010
  have s10000000 : wpAnyIn (F.inRound l) n Tryz.prog .any (standOps ps) Q' 9 #[true, false, false, false, false, false, false, false, false, false] { tmps := #[z0, .pointer (some ⟨Bl, 0, none⟩), .pointer (some ⟨By, 0, none⟩), .int .u64 u, z4, z5, z6, z7, z8, z9, z10, z11, y, undef, undef, undef, undef, undef, undef, undef, undef, undef], defers := [] } w := by
    refine wpAnyIn_ready (rs := [1, 2, 6]) (by kernel_rfl) (by simp) ?_
    refine AllReadyIn.cons rfl (fun Kc hKc => ?_) (AllReadyIn.cons rfl (fun Kc hKc => ?_) (AllReadyIn.cons rfl (fun Kc hKc => ?_) AllReadyIn.nil))
    · go_simp
      exact hKc _ _ s11000000
    · go_simp
      exact hKc _ _ s10100000
    · go_simp
      exact hKc _ _ s10000010
  have s01000000 : wpAnyIn (F.inRound l) n Tryz.prog .any (standOps ps) Q' 9 #[false, true, false, false, false, false, false, false, false, false] { tmps := #[z0, .pointer (some ⟨Bl, 0, none⟩), .pointer (some ⟨By, 0, none⟩), .int .u64 u, z4, z5, z6, z7, z8, z9, z10, z11, undef, .int .u64 u, undef, undef, undef, undef, undef, undef, undef, undef], defers := [] } w := by
    refine wpAnyIn_ready (rs := [0, 2, 6]) (by kernel_rfl) (by simp) ?_
    refine AllReadyIn.cons rfl (fun Kc hKc => ?_) (AllReadyIn.cons rfl (fun Kc hKc => ?_) (AllReadyIn.cons rfl (fun Kc hKc => ?_) AllReadyIn.nil))
    · go_simp
      exact hKc _ _ s11000000
    · go_simp
      exact hKc _ _ s01100000
    · go_simp
      exact hKc _ _ s01000010
  have s00100000 : wpAnyIn (F.inRound l) n Tryz.prog .any (standOps ps) Q' 9 #[false, false, true, false, false, false, false, false, false, false] { tmps := #[z0, .pointer (some ⟨Bl, 0, none⟩), .pointer (some ⟨By, 0, none⟩), .int .u64 u, z4, z5, z6, z7, z8, z9, z10, z11, undef, undef, qp Q, undef, undef, undef, undef, undef, undef, undef], defers := [] } w := by
    refine wpAnyIn_ready (rs := [0, 1, 3, 6]) (by kernel_rfl) (by simp) ?_
    refine AllReadyIn.cons rfl (fun Kc hKc => ?_) (AllReadyIn.cons rfl (fun Kc hKc => ?_) (AllReadyIn.cons rfl (fun Kc hKc => ?_) (AllReadyIn.cons rfl (fun Kc hKc => ?_) AllReadyIn.nil)))
    · go_simp
      exact hKc _ _ s10100000
    · go_simp
      exact hKc _ _ s01100000
    · go_simp
      exact hKc _ _ s00110000
    · go_simp
      exact hKc _ _ s00100010
  have s00000010 : wpAnyIn (F.inRound l) n Tryz.prog .any (standOps ps) Q' 9 #[false, false, false, false, false, false, true, false, false, false] { tmps := #[z0, .pointer (some ⟨Bl, 0, none⟩), .pointer (some ⟨By, 0, none⟩), .int .u64 u, z4, z5, z6, z7, z8, z9, z10, z11, undef, undef, undef, undef, undef, undef, .int .u64 u, undef, undef, undef], defers := [] } w := by
    refine wpAnyIn_ready (rs := [0, 1, 2]) (by kernel_rfl) (by simp) ?_
    refine AllReadyIn.cons rfl (fun Kc hKc => ?_) (AllReadyIn.cons rfl (fun Kc hKc => ?_) (AllReadyIn.cons rfl (fun Kc hKc => ?_) AllReadyIn.nil))
    · go_simp
      exact hKc _ _ s10000010
    · go_simp
      exact hKc _ _ s01000010
    · go_simp
      exact hKc _ _ s00100010
  have s00000000 : wpAnyIn (F.inRound l) n Tryz.prog .any (standOps ps) Q' 10 #[false, false, false, false, false, false, false, false, false, false] { tmps := #[z0, .pointer (some ⟨Bl, 0, none⟩), .pointer (some ⟨By, 0, none⟩), .int .u64 u, z4, z5, z6, z7, z8, z9, z10, z11, undef, undef, undef, undef, undef, undef, undef, undef, undef, undef], defers := [] } w := by
    refine wpAnyIn_ready (rs := [0, 1, 2, 6]) (by kernel_rfl) (by simp) ?_
    refine AllReadyIn.cons rfl (fun Kc hKc => ?_) (AllReadyIn.cons rfl (fun Kc hKc => ?_) (AllReadyIn.cons rfl (fun Kc hKc => ?_) (AllReadyIn.cons rfl (fun Kc hKc => ?_) AllReadyIn.nil)))
    · go_simp
      exact hKc _ _ s10000000
    · go_simp
      exact hKc _ _ s01000000
    · go_simp
      exact hKc _ _ s00100000
    · go_simp
      exact hKc _ _ s00000010
  refine wpIn_region_any hmo ?_
  rw [hw.out] at s00000000
  exact s00000000
end Go.Proofs.YtnbegddpgmejnaaGreat
