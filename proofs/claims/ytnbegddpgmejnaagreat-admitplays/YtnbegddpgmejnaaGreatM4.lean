/-
  Layer 13: fixed. Layer 13: AdmitPlays.
-/
import Derived.Test.YtnbegddpgmejnaaGreatAj
import Derived.Test.YtnbegddpgmejnaaGreatM2
import Derived.Test.YtnbegddpgmejnaaGreatMxb
namespace Go.Proofs.YtnbegddpgmejnaaGreat
open Go.RowKit


set_option maxHeartbeats 4000000 in
set_option maxRecDepth 100000 in
theorem fixed_any (w0 : World) : Calls Tryz.prog 4 #[] w0 fun e w' => e = .returned (.bool true) ∧ Below w0.heap.size w0 w' := by
  have HB0 : Hid (Below w0.heap.size w0 w0) := Below.refl _ _
  go_enter Tryz.func4, Tryz.ntmps4
  go_wp2_with fail
  refine (small_any _).mono ?_
  rintro e w1 ⟨rfl, hb⟩
  have HB1 : Hid (Below w0.heap.size w0 w1) := HB0.out.trans (hb.mono HB0.out.size)
  clear hb HB0
  go_wp2_with fail
  refine (o_new w0 _ HB1.out (by decide)).mono ?_
  rintro e w2 ⟨Q, rfl, h1⟩
  have H2 : Hid (Own w0 w2 Q 0 ⟨4, 5, 3, 5, 2, 1, 0, [], [], 0⟩) := h1
  clear h1 HB1
  go_wp2_with fail
  refine (new_bad _ (by decide)).mono ?_
  rintro e w3 ⟨rfl, hb⟩
  have H3 : Hid (Own w0 w3 Q 0 ⟨4, 5, 3, 5, 2, 1, 0, [], [], 0⟩) := H2.out.later hb
  clear hb H2
  go_wp2_with fail
  refine (o_begin (a' := ⟨4, 5, 3, 5, 2, 2, 0, [(1, [0, 2])], [], 0⟩) (H3.out.later (below_alloc _ _)) (by decide) (by decide) (B.lit_in _ [2, 0, 2] 3 rfl) (by decide) (t := 1) (f := [0, 2]) (E := 0) rfl rfl rfl rfl).mono ?_
  rintro e w4 ⟨q4, d4, rfl, hf, h1, h2⟩
  have Gf4 : Hid (Frm w4 (.slice q4 2 d4) [0, 2]) := hf
  clear hf
  have H4 : Hid (Own w0 w4 Q 1 ⟨4, 5, 3, 5, 2, 2, 0, [(1, [0, 2])], [], 0⟩) := h1
  clear h1 h2 H3
  go_wp2_with fail
  refine (o_fits H4.out (by decide) (y := true) rfl).mono ?_
  rintro e w5 ⟨rfl, h1, h2⟩
  have H5 : Hid (Own w0 w5 Q 1 ⟨4, 5, 3, 5, 2, 2, 0, [(1, [0, 2])], [], 0⟩) := h1
  have Gf_5 : Hid (Frm w5 (.slice q4 2 d4) [0, 2]) := Gf4.out.later h2
  clear h1 h2 H4 Gf4
  go_wp2_with fail
  refine (o_enter (a' := ⟨4, 5, 3, 5, 2, 2, 1, [], [(1, [0, 2], 3)], 0⟩) H5.out (by decide) (by decide) (t := 1) (f := [0, 2]) (E := 0) rfl rfl rfl rfl).mono ?_
  rintro e w6 ⟨q6, d6, rfl, hf, h1, h2⟩
  have Gf6 : Hid (Frm w6 (.slice q6 2 d6) [0, 2]) := hf
  clear hf
  have H6 : Hid (Own w0 w6 Q 2 ⟨4, 5, 3, 5, 2, 2, 1, [], [(1, [0, 2], 3)], 0⟩) := h1
  have Gf_6 : Hid (Frm w6 (.slice q4 2 d4) [0, 2]) := h2 _ _ Gf_5.out
  clear h1 h2 H5 Gf_5
  go_wp2_with fail
  refine (o_left H6.out (u64_small (by decide) (by decide)) (x := 3) (y := true) rfl rfl).mono ?_
  rintro e w7 ⟨rfl, h1, h2⟩
  have H7 : Hid (Own w0 w7 Q 2 ⟨4, 5, 3, 5, 2, 2, 1, [], [(1, [0, 2], 3)], 0⟩) := h1
  have Gf_7 : Hid (Frm w7 (.slice q4 2 d4) [0, 2]) := Gf_6.out.later h2
  have Gg_7 : Hid (Frm w7 (.slice q6 2 d6) [0, 2]) := Gf6.out.later h2
  clear h1 h2 H6 Gf_6 Gf6
  go_wp2_with fail
  refine (o_sameF (H7.out.later (below_alloc _ _)) (xs := [0, 2]) (Gf_7.out.later (below_alloc _ _)) (by decide) (B.lit_in _ [0, 2] 2 rfl) (y := true) (by decide)).mono ?_
  rintro e w8 ⟨rfl, h1, h2⟩
  have H8 : Hid (Own w0 w8 Q 2 ⟨4, 5, 3, 5, 2, 2, 1, [], [(1, [0, 2], 3)], 0⟩) := h1
  have Gf_8 : Hid (Frm w8 (.slice q4 2 d4) [0, 2]) := (Gf_7.out.later (below_alloc _ _)).later h2
  have Gg_8 : Hid (Frm w8 (.slice q6 2 d6) [0, 2]) := (Gg_7.out.later (below_alloc _ _)).later h2
  clear h1 h2 H7 Gf_7 Gg_7
  go_wp2_with fail
  refine (o_sameF (H8.out.later (below_alloc _ _)) (xs := [0, 2]) (Gg_8.out.later (below_alloc _ _)) (by decide) (B.lit_in _ [0, 2] 2 rfl) (y := true) (by decide)).mono ?_
  rintro e w9 ⟨rfl, h1, h2⟩
  have H9 : Hid (Own w0 w9 Q 2 ⟨4, 5, 3, 5, 2, 2, 1, [], [(1, [0, 2], 3)], 0⟩) := h1
  have Gf_9 : Hid (Frm w9 (.slice q4 2 d4) [0, 2]) := (Gf_8.out.later (below_alloc _ _)).later h2
  have Gg_9 : Hid (Frm w9 (.slice q6 2 d6) [0, 2]) := (Gg_8.out.later (below_alloc _ _)).later h2
  clear h1 h2 H8 Gf_8 Gg_8
  go_wp2_with fail
  refine (o_reserved H9.out (x := 3) rfl).mono ?_
  rintro e w10 ⟨rfl, h1, h2⟩
  have H10 : Hid (Own w0 w10 Q 2 ⟨4, 5, 3, 5, 2, 2, 1, [], [(1, [0, 2], 3)], 0⟩) := h1
  have Gf_10 : Hid (Frm w10 (.slice q4 2 d4) [0, 2]) := Gf_9.out.later h2
  have Gg_10 : Hid (Frm w10 (.slice q6 2 d6) [0, 2]) := Gg_9.out.later h2
  clear h1 h2 H9 Gf_9 Gg_9
  go_wp2_with fail
  refine (o_append (a' := ⟨4, 5, 3, 5, 2, 2, 1, [], [(1, [0, 2], 2)], 1⟩) H10.out (by decide) (u64_small (by decide) (by decide)) (E := 0) rfl rfl).mono ?_
  rintro e w11 ⟨rfl, h1, h2⟩
  have H11 : Hid (Own w0 w11 Q 3 ⟨4, 5, 3, 5, 2, 2, 1, [], [(1, [0, 2], 2)], 1⟩) := h1
  have Gf_11 : Hid (Frm w11 (.slice q4 2 d4) [0, 2]) := h2 _ _ Gf_10.out
  have Gg_11 : Hid (Frm w11 (.slice q6 2 d6) [0, 2]) := h2 _ _ Gg_10.out
  clear h1 h2 H10 Gf_10 Gg_10
  go_wp2_with fail
  refine (o_used H11.out (x := 1) rfl).mono ?_
  rintro e w12 ⟨rfl, h1, h2⟩
  have H12 : Hid (Own w0 w12 Q 3 ⟨4, 5, 3, 5, 2, 2, 1, [], [(1, [0, 2], 2)], 1⟩) := h1
  have Gf_12 : Hid (Frm w12 (.slice q4 2 d4) [0, 2]) := Gf_11.out.later h2
  have Gg_12 : Hid (Frm w12 (.slice q6 2 d6) [0, 2]) := Gg_11.out.later h2
  clear h1 h2 H11 Gf_11 Gg_11
  go_wp2_with fail
  refine (o_reserved H12.out (x := 2) rfl).mono ?_
  rintro e w13 ⟨rfl, h1, h2⟩
  have H13 : Hid (Own w0 w13 Q 3 ⟨4, 5, 3, 5, 2, 2, 1, [], [(1, [0, 2], 2)], 1⟩) := h1
  have Gf_13 : Hid (Frm w13 (.slice q4 2 d4) [0, 2]) := Gf_12.out.later h2
  have Gg_13 : Hid (Frm w13 (.slice q6 2 d6) [0, 2]) := Gg_12.out.later h2
  clear h1 h2 H12 Gf_12 Gg_12
  go_wp2_with fail
  refine (o_done (a' := ⟨4, 5, 3, 5, 2, 2, 1, [], [], 2⟩) H13.out (by decide) (by decide) (u64_small (by decide) (by decide)) (E := 0) rfl rfl).mono ?_
  rintro e w14 ⟨rfl, h1, h2⟩
  have H14 : Hid (Own w0 w14 Q 5 ⟨4, 5, 3, 5, 2, 2, 1, [], [], 2⟩) := h1
  have Gf_14 : Hid (Frm w14 (.slice q4 2 d4) [0, 2]) := h2 _ _ Gf_13.out
  have Gg_14 : Hid (Frm w14 (.slice q6 2 d6) [0, 2]) := h2 _ _ Gg_13.out
  clear h1 h2 H13 Gf_13 Gg_13
  go_wp2_with fail
  refine (o_used H14.out (x := 2) rfl).mono ?_
  rintro e w15 ⟨rfl, h1, h2⟩
  have H15 : Hid (Own w0 w15 Q 5 ⟨4, 5, 3, 5, 2, 2, 1, [], [], 2⟩) := h1
  have Gf_15 : Hid (Frm w15 (.slice q4 2 d4) [0, 2]) := Gf_14.out.later h2
  have Gg_15 : Hid (Frm w15 (.slice q6 2 d6) [0, 2]) := Gg_14.out.later h2
  clear h1 h2 H14 Gf_14 Gg_14
  go_wp2_with fail
  refine (o_reserved H15.out (x := 0) rfl).mono ?_
  rintro e w16 ⟨rfl, h1, h2⟩
  have H16 : Hid (Own w0 w16 Q 5 ⟨4, 5, 3, 5, 2, 2, 1, [], [], 2⟩) := h1
  have Gf_16 : Hid (Frm w16 (.slice q4 2 d4) [0, 2]) := Gf_15.out.later h2
  have Gg_16 : Hid (Frm w16 (.slice q6 2 d6) [0, 2]) := Gg_15.out.later h2
  clear h1 h2 H15 Gf_15 Gg_15
  go_wp2_with fail
  refine (o_copy H16.out (by decide)).mono ?_
  rintro e w17 ⟨Q17, rfl, h1, h2⟩
  have H17 : Hid (Own w0 w17 Q 5 ⟨4, 5, 3, 5, 2, 2, 1, [], [], 2⟩) := h1
  have Gf_17 : Hid (Frm w17 (.slice q4 2 d4) [0, 2]) := Gf_16.out.later h2
  have Gg_17 : Hid (Frm w17 (.slice q6 2 d6) [0, 2]) := Gg_16.out.later h2
  clear h1 h2 H16 Gf_16 Gg_16
  go_wp2_with fail
  go_ret
  exact ⟨rfl, H17.out.below⟩
end Go.Proofs.YtnbegddpgmejnaaGreat
namespace Go.Proofs.YtnbegddpgmejnaaGreat
open Go.RowKit

variable {w0 w w' : World} {P : Nat} {q : Nat → Nat} {S D : Nat → Ad} {X : Nat → Th} {N a b j k k2 : Nat}

theorem apart_nx {Bx : Int} (h : Nx w0 w P N a b Bx) (ha : a ≤ 4500) (hb : b ≤ 4500) : Calls Tryz.prog 11 #[qp P] w fun e w' => e = .returned (.bool true) ∧ Below w0.heap.size w0 w' := by
  obtain ⟨q, S, h, _⟩ := h
  exact apart_at h ha hb
set_option maxHeartbeats 8000000 in
set_option maxRecDepth 100000 in
theorem admitPlays_any (bl lc mr hi cl : Int) (p : Option Addr) (len cap : Nat) (f : Nat → OpV) (gg : Nat → List Int) (w : World) (hp : ScIn w p len f gg) (hn : len ≤ 9223372036854775807) :
    Calls Tryz.prog 3 #[cfgV bl lc mr hi cl, .slice p len cap] w fun e w' => e = .returned (.bool true) ∧ Below w.heap.size w w' := by
  have HP : Hid (ScIn w p len f gg) := hp
  clear hp
  go_enter Tryz.func3, Tryz.ntmps3
  go_wp2_with fail
  refine (fixed_any _).mono ?_
  rintro e w1 ⟨rfl, hb⟩
  have HB1 : Hid (Below w.heap.size w w1) := below_then (below_alloc w _) hb
  have hC1 : Hid (w1.heap[w.heap.size]? = some (.cells #[.int .i64 bl, .int .i64 lc, .int .i64 mr, .int .i64 hi, .int .i64 cl] 23 (0, 0))) := (hb.block w.heap.size (by simp)).trans (heap_alloc_new w _)
  clear hb
  have c0 : w1.cell? ⟨w.heap.size, 0, none⟩ = some (.int .i64 bl) := cell_of_row _ w.heap.size 0 _ 23 (0, 0) hC1.out
  have c1 : w1.cell? ⟨w.heap.size, 1, none⟩ = some (.int .i64 lc) := cell_of_row _ w.heap.size 1 _ 23 (0, 0) hC1.out
  have c2 : w1.cell? ⟨w.heap.size, 2, none⟩ = some (.int .i64 mr) := cell_of_row _ w.heap.size 2 _ 23 (0, 0) hC1.out
  have c3 : w1.cell? ⟨w.heap.size, 3, none⟩ = some (.int .i64 hi) := cell_of_row _ w.heap.size 3 _ 23 (0, 0) hC1.out
  have c4 : w1.cell? ⟨w.heap.size, 4, none⟩ = some (.int .i64 cl) := cell_of_row _ w.heap.size 4 _ 23 (0, 0) hC1.out
  have hs1 : Hid (w.heap.size < w1.heap.size) := (Array.getElem?_eq_some_iff.1 hC1.out).1
  by_cases hM : mayC bl lc mr hi cl
  · go_wp2_with fail
    refine (new_ok _ hM).mono ?_
    rintro e w2 ⟨F0, rfl, h1, h2, h3⟩
    have H2 : Hid (PL w2 F0 0 (newA bl lc mr hi cl) ∧ (∀ b, F0.has b → w1.heap.size ≤ b) ∧ Below w1.heap.size w1 w2) := ⟨h1, h2, h3⟩
    clear h1 h2 h3 c0 c1 c2 c3 c4
    have hC2 : Hid (w2.heap[w.heap.size]? = some (.cells #[.int .i64 bl, .int .i64 lc, .int .i64 mr, .int .i64 hi, .int .i64 cl] 23 (0, 0))) := (H2.out.2.2.block _ hs1.out).trans hC1.out
    have c0 : w2.cell? ⟨w.heap.size, 0, none⟩ = some (.int .i64 bl) := cell_of_row _ w.heap.size 0 _ 23 (0, 0) hC2.out
    have c1 : w2.cell? ⟨w.heap.size, 1, none⟩ = some (.int .i64 lc) := cell_of_row _ w.heap.size 1 _ 23 (0, 0) hC2.out
    have c2 : w2.cell? ⟨w.heap.size, 2, none⟩ = some (.int .i64 mr) := cell_of_row _ w.heap.size 2 _ 23 (0, 0) hC2.out
    have c3 : w2.cell? ⟨w.heap.size, 3, none⟩ = some (.int .i64 hi) := cell_of_row _ w.heap.size 3 _ 23 (0, 0) hC2.out
    have c4 : w2.cell? ⟨w.heap.size, 4, none⟩ = some (.int .i64 cl) := cell_of_row _ w.heap.size 4 _ 23 (0, 0) hC2.out
    go_wp2_with fail
    refine (rnew_ok _ hM).mono ?_
    rintro e w3 ⟨R, rfl, h1, h2, h3⟩
    have H3 : Hid (RL w3 (fun _ => False) R nils nils (newA bl lc mr hi cl) [] [] ∧ w2.heap.size ≤ R ∧ Below w2.heap.size w2 w3) := ⟨h1, h2, h3⟩
    clear h1 h2 h3 c0 c1 c2 c3 c4 hC2 hC1
    have P2 : Hid (PL w2 { F0 with G := fun _ => False } 0 (newA bl lc mr hi cl)) := H2.out.1.regrind rfl
    go_wp2_with fail
    refine (copyL_at (P2.out.later H3.out.2.2) (by show (1 : Int) ≤ 1000; omega)).mono ?_
    rintro e w4 ⟨F', rfl, h1, h2, h3, h4⟩
    have H4 : Hid (PL w4 F' 0 (newA bl lc mr hi cl) ∧ (∀ b, F'.has b → w3.heap.size ≤ b) ∧ True ∧ F'.G = (fun _ => False) ∧ Below w3.heap.size w3 w4) := ⟨h1, h2, trivial, h3, h4⟩
    clear h1 h2 h3 h4
    go_wp2_with fail
    refine (rcopy_at (H3.out.1.later H4.out.2.2.2.2)).mono ?_
    rintro e w5 ⟨rfl, h1, h2⟩
    have S0 : Hid (Nx w (w5.alloc (.cells #[qp F0.Q, qp F'.Q, qp R, qp w4.heap.size, nils, nils, nils, nils] 41)) w5.heap.size (2 * 0) (3 * 0) (4 * 0) (((0 : Nat) : Int) + 1)) := begun (F := { F0 with G := fun _ => False }) HB1.out P2.out H2.out.2.1 (fun _ h => h) H2.out.2.2 H3.out.1 H3.out.2.1 H3.out.2.2 H4.out.1 H4.out.2.1 H4.out.2.2.2.1 H4.out.2.2.2.2 h1 h2 (Int.le_refl _)
    clear h1 h2 H2 H3 P2 H4 HB1 hs1
    go_wp2_with fail
    generalize w5.alloc (.cells #[qp F0.Q, qp F'.Q, qp R, qp w4.heap.size, nils, nils, nils, nils] 41) = w6 at *
    go_loopw [10] (fun i wr => ∃ k : Nat, k ≤ 80 ∧ k ≤ len ∧ i = .int .i64 k ∧ Hid (Nx w wr w5.heap.size (2 * k) (3 * k) (4 * k) ((k : Int) + 1))) (fun i _ => 80 - (intOf i).toNat)
    case atStart => exact ⟨0, by omega, Nat.zero_le _, rfl, S0⟩
    case round =>
      clear S0
      obtain ⟨k, hk1, hk2, rfl, NK⟩ := hrel
      by_cases hk : k < len ∧ k < 80
      · obtain ⟨h1, h2⟩ := hk
        have i1 : (k : Int) < (len : Int) := by omega
        have i2 : (k : Int) < 80 := by omega
        have BW : Hid (Below w.heap.size w wr) := NK.out.below
        obtain ⟨bb, o, rfl, hc⟩ := (HP.out.later BW.out).cells (by omega)
        have hx := hc k h1
        have HOk : Hid (OpOk w (f k) (gg k)) := HP.out.each k h1
        clear hc
        generalize gg k = xs at *
        generalize f k = v at *
        obtain ⟨kd, wh, p', m, c, t, n⟩ := v
        have x0 : wr.cell? ⟨bb, o + k * 5, none⟩ = some (.int .i64 kd) := hx 0 _ rfl
        have x1 : wr.cell? ⟨bb, o + k * 5 + 1, none⟩ = some (.int .i64 wh) := hx 1 _ rfl
        have x2 : wr.cell? ⟨bb, o + k * 5 + 2, none⟩ = some (.slice p' m c) := hx 2 _ rfl
        have x3 : wr.cell? ⟨bb, o + k * 5 + 3, none⟩ = some (.int .u64 t) := hx 3 _ rfl
        have x4 : wr.cell? ⟨bb, o + k * 5 + 4, none⟩ = some (.int .i64 n) := hx 4 _ rfl
        clear hx
        go_wp2_with fail
        refine (plays_any NK.out (by omega) (by omega) (by omega) (by omega) kd wh t n p' m c HOk.out.u (fun w' hb => HOk.out.i.later hb) HOk.out.mc HOk.out.nl HOk.out.mm).mono ?_
        rintro e w7 ⟨rfl, h7⟩
        have N7 : Hid (Nx w w7 w5.heap.size (2 * (k + 1)) (3 * (k + 1)) (4 * (k + 1)) (((k + 1 : Nat) : Int) + 1)) := by
          have e1 : (((k + 1 : Nat) : Int) + 1) = (k : Int) + 1 + 1 := by omega
          rw [e1]
          exact h7
        clear h7 x0 x1 x2 x3 x4 NK HOk
        go_wp2_with fail
        go_roundw
        case rel => exact ⟨k + 1, by omega, by omega, by go_num, N7⟩
        case measure => simp [intOf]; omega
      · by_cases h1 : k < len
        · have i1 : (k : Int) < (len : Int) := by omega
          have i2 : ¬ (k : Int) < 80 := by omega
          clear hk
          go_wp2_with fail
          refine (tells_0 NK.out (by omega) (by omega) (by omega)).mono ?_
          rintro e w8 ⟨rfl, h8⟩
          have N8 : Hid (Nx w w8 w5.heap.size (2 * k) (3 * k + 2) (4 * k + 4) ((k : Int) + 1)) := h8
          clear h8 NK
          go_wp2_with fail
          refine (tells_1 N8.out (by omega) (by omega) (by omega)).mono ?_
          rintro e w9 ⟨rfl, h9⟩
          have N9 : Hid (Nx w w9 w5.heap.size (2 * k) (3 * k + 2 + 2) (4 * k + 4 + 4) ((k : Int) + 1)) := h9
          clear h9 N8
          go_wp2_with fail
          refine (apart_nx N9.out (by omega) (by omega)).mono ?_
          rintro e wt ⟨rfl, ht⟩
          have HT : Hid (Below w.heap.size w wt) := ht
          clear ht N9
          go_wp2_with fail
          go_ret
          exact ⟨rfl, HT.out⟩
        · have i1 : ¬ (k : Int) < (len : Int) := by omega
          clear hk
          go_wp2_with fail
          refine (tells_0 NK.out (by omega) (by omega) (by omega)).mono ?_
          rintro e w8 ⟨rfl, h8⟩
          have N8 : Hid (Nx w w8 w5.heap.size (2 * k) (3 * k + 2) (4 * k + 4) ((k : Int) + 1)) := h8
          clear h8 NK
          go_wp2_with fail
          refine (tells_1 N8.out (by omega) (by omega) (by omega)).mono ?_
          rintro e w9 ⟨rfl, h9⟩
          have N9 : Hid (Nx w w9 w5.heap.size (2 * k) (3 * k + 2 + 2) (4 * k + 4 + 4) ((k : Int) + 1)) := h9
          clear h9 N8
          go_wp2_with fail
          refine (apart_nx N9.out (by omega) (by omega)).mono ?_
          rintro e wt ⟨rfl, ht⟩
          have HT : Hid (Below w.heap.size w wt) := ht
          clear ht N9
          go_wp2_with fail
          go_ret
          exact ⟨rfl, HT.out⟩
  · go_wp2_with fail
    refine (new_bad _ hM).mono ?_
    rintro e w2 ⟨rfl, hb⟩
    have H2 : Hid (Below w1.heap.size w1 w2) := hb
    clear hb c0 c1 c2 c3 c4
    have hC2 : Hid (w2.heap[w.heap.size]? = some (.cells #[.int .i64 bl, .int .i64 lc, .int .i64 mr, .int .i64 hi, .int .i64 cl] 23 (0, 0))) := (H2.out.block _ hs1.out).trans hC1.out
    have c0 : w2.cell? ⟨w.heap.size, 0, none⟩ = some (.int .i64 bl) := cell_of_row _ w.heap.size 0 _ 23 (0, 0) hC2.out
    have c1 : w2.cell? ⟨w.heap.size, 1, none⟩ = some (.int .i64 lc) := cell_of_row _ w.heap.size 1 _ 23 (0, 0) hC2.out
    have c2 : w2.cell? ⟨w.heap.size, 2, none⟩ = some (.int .i64 mr) := cell_of_row _ w.heap.size 2 _ 23 (0, 0) hC2.out
    have c3 : w2.cell? ⟨w.heap.size, 3, none⟩ = some (.int .i64 hi) := cell_of_row _ w.heap.size 3 _ 23 (0, 0) hC2.out
    have c4 : w2.cell? ⟨w.heap.size, 4, none⟩ = some (.int .i64 cl) := cell_of_row _ w.heap.size 4 _ 23 (0, 0) hC2.out
    go_wp2_with fail
    refine (rnew_bad _ hM).mono ?_
    rintro e w3 ⟨rfl, hb⟩
    have H3 : Hid (Below w2.heap.size w2 w3) := hb
    clear hb c0 c1 c2 c3 c4
    go_wp2
    go_ret
    exact ⟨rfl, below_then HB1.out (below_then H2.out H3.out)⟩
end Go.Proofs.YtnbegddpgmejnaaGreat
