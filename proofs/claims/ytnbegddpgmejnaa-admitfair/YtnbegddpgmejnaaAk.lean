/-
  Layer 13: fixed.
-/
import Derived.Test.YtnbegddpgmejnaaAj
namespace Go.Proofs.Ytnbegddpgmejnaa
open Go.RowKit


set_option maxHeartbeats 4000000 in
set_option maxRecDepth 100000 in
theorem fixed_any (w0 : World) : Calls Try.prog 5 #[] w0 fun e w' => e = .returned (.bool true) ∧ Below w0.heap.size w0 w' := by
  have HB0 : Hid (Below w0.heap.size w0 w0) := Below.refl _ _
  go_enter Try.func5, Try.ntmps5
  go_wp2_with fail
  refine (small_any _).mono ?_
  rintro e w1 ⟨rfl, hb⟩
  have HB1 : Hid (Below w0.heap.size w0 w1) := HB0.out.trans (hb.mono HB0.out.size)
  clear hb HB0
  go_wp2_with fail
  refine (o_new w0 _ HB1.out (by decide)).mono ?_
  rintro e w2 ⟨Q, rfl, h1⟩
  have H2 : Hid (Own w0 w2 Q 0 ⟨4, 5, 3, 5, 2, 1, 0, [], [], 0⟩) := h1
  clear h1 HB1
  go_wp2_with fail
  refine (new_bad _ (by decide)).mono ?_
  rintro e w3 ⟨rfl, hb⟩
  have H3 : Hid (Own w0 w3 Q 0 ⟨4, 5, 3, 5, 2, 1, 0, [], [], 0⟩) := H2.out.later hb
  clear hb H2
  go_wp2_with fail
  refine (o_begin (a' := ⟨4, 5, 3, 5, 2, 2, 0, [(1, [0, 2])], [], 0⟩) (H3.out.later (below_alloc _ _)) (by decide) (by decide) (B.lit_in _ [2, 0, 2] 3 rfl) (by decide) (t := 1) (f := [0, 2]) (E := 0) rfl rfl rfl rfl).mono ?_
  rintro e w4 ⟨q4, d4, rfl, hf, h1, h2⟩
  have Gf4 : Hid (Frm w4 (.slice q4 2 d4) [0, 2]) := hf
  clear hf
  have H4 : Hid (Own w0 w4 Q 1 ⟨4, 5, 3, 5, 2, 2, 0, [(1, [0, 2])], [], 0⟩) := h1
  clear h1 h2 H3
  go_wp2_with fail
  refine (o_fits H4.out (by decide) (y := true) rfl).mono ?_
  rintro e w5 ⟨rfl, h1, h2⟩
  have H5 : Hid (Own w0 w5 Q 1 ⟨4, 5, 3, 5, 2, 2, 0, [(1, [0, 2])], [], 0⟩) := h1
  have Gf_5 : Hid (Frm w5 (.slice q4 2 d4) [0, 2]) := Gf4.out.later h2
  clear h1 h2 H4 Gf4
  go_wp2_with fail
  refine (o_enter (a' := ⟨4, 5, 3, 5, 2, 2, 1, [], [(1, [0, 2], 3)], 0⟩) H5.out (by decide) (by decide) (t := 1) (f := [0, 2]) (E := 0) rfl rfl rfl rfl).mono ?_
  rintro e w6 ⟨q6, d6, rfl, hf, h1, h2⟩
  have Gf6 : Hid (Frm w6 (.slice q6 2 d6) [0, 2]) := hf
  clear hf
  have H6 : Hid (Own w0 w6 Q 2 ⟨4, 5, 3, 5, 2, 2, 1, [], [(1, [0, 2], 3)], 0⟩) := h1
  have Gf_6 : Hid (Frm w6 (.slice q4 2 d4) [0, 2]) := h2 _ _ Gf_5.out
  clear h1 h2 H5 Gf_5
  go_wp2_with fail
  refine (o_left H6.out (u64_small (by decide) (by decide)) (x := 3) (y := true) rfl rfl).mono ?_
  rintro e w7 ⟨rfl, h1, h2⟩
  have H7 : Hid (Own w0 w7 Q 2 ⟨4, 5, 3, 5, 2, 2, 1, [], [(1, [0, 2], 3)], 0⟩) := h1
  have Gf_7 : Hid (Frm w7 (.slice q4 2 d4) [0, 2]) := Gf_6.out.later h2
  have Gg_7 : Hid (Frm w7 (.slice q6 2 d6) [0, 2]) := Gf6.out.later h2
  clear h1 h2 H6 Gf_6 Gf6
  go_wp2_with fail
  refine (o_sameF (H7.out.later (below_alloc _ _)) (xs := [0, 2]) (Gf_7.out.later (below_alloc _ _)) (by decide) (B.lit_in _ [0, 2] 2 rfl) (y := true) (by decide)).mono ?_
  rintro e w8 ⟨rfl, h1, h2⟩
  have H8 : Hid (Own w0 w8 Q 2 ⟨4, 5, 3, 5, 2, 2, 1, [], [(1, [0, 2], 3)], 0⟩) := h1
  have Gf_8 : Hid (Frm w8 (.slice q4 2 d4) [0, 2]) := (Gf_7.out.later (below_alloc _ _)).later h2
  have Gg_8 : Hid (Frm w8 (.slice q6 2 d6) [0, 2]) := (Gg_7.out.later (below_alloc _ _)).later h2
  clear h1 h2 H7 Gf_7 Gg_7
  go_wp2_with fail
  refine (o_sameF (H8.out.later (below_alloc _ _)) (xs := [0, 2]) (Gg_8.out.later (below_alloc _ _)) (by decide) (B.lit_in _ [0, 2] 2 rfl) (y := true) (by decide)).mono ?_
  rintro e w9 ⟨rfl, h1, h2⟩
  have H9 : Hid (Own w0 w9 Q 2 ⟨4, 5, 3, 5, 2, 2, 1, [], [(1, [0, 2], 3)], 0⟩) := h1
  have Gf_9 : Hid (Frm w9 (.slice q4 2 d4) [0, 2]) := (Gf_8.out.later (below_alloc _ _)).later h2
  have Gg_9 : Hid (Frm w9 (.slice q6 2 d6) [0, 2]) := (Gg_8.out.later (below_alloc _ _)).later h2
  clear h1 h2 H8 Gf_8 Gg_8
  go_wp2_with fail
  refine (o_reserved H9.out (x := 3) rfl).mono ?_
  rintro e w10 ⟨rfl, h1, h2⟩
  have H10 : Hid (Own w0 w10 Q 2 ⟨4, 5, 3, 5, 2, 2, 1, [], [(1, [0, 2], 3)], 0⟩) := h1
  have Gf_10 : Hid (Frm w10 (.slice q4 2 d4) [0, 2]) := Gf_9.out.later h2
  have Gg_10 : Hid (Frm w10 (.slice q6 2 d6) [0, 2]) := Gg_9.out.later h2
  clear h1 h2 H9 Gf_9 Gg_9
  go_wp2_with fail
  refine (o_append (a' := ⟨4, 5, 3, 5, 2, 2, 1, [], [(1, [0, 2], 2)], 1⟩) H10.out (by decide) (u64_small (by decide) (by decide)) (E := 0) rfl rfl).mono ?_
  rintro e w11 ⟨rfl, h1, h2⟩
  have H11 : Hid (Own w0 w11 Q 3 ⟨4, 5, 3, 5, 2, 2, 1, [], [(1, [0, 2], 2)], 1⟩) := h1
  have Gf_11 : Hid (Frm w11 (.slice q4 2 d4) [0, 2]) := h2 _ _ Gf_10.out
  have Gg_11 : Hid (Frm w11 (.slice q6 2 d6) [0, 2]) := h2 _ _ Gg_10.out
  clear h1 h2 H10 Gf_10 Gg_10
  go_wp2_with fail
  refine (o_used H11.out (x := 1) rfl).mono ?_
  rintro e w12 ⟨rfl, h1, h2⟩
  have H12 : Hid (Own w0 w12 Q 3 ⟨4, 5, 3, 5, 2, 2, 1, [], [(1, [0, 2], 2)], 1⟩) := h1
  have Gf_12 : Hid (Frm w12 (.slice q4 2 d4) [0, 2]) := Gf_11.out.later h2
  have Gg_12 : Hid (Frm w12 (.slice q6 2 d6) [0, 2]) := Gg_11.out.later h2
  clear h1 h2 H11 Gf_11 Gg_11
  go_wp2_with fail
  refine (o_reserved H12.out (x := 2) rfl).mono ?_
  rintro e w13 ⟨rfl, h1, h2⟩
  have H13 : Hid (Own w0 w13 Q 3 ⟨4, 5, 3, 5, 2, 2, 1, [], [(1, [0, 2], 2)], 1⟩) := h1
  have Gf_13 : Hid (Frm w13 (.slice q4 2 d4) [0, 2]) := Gf_12.out.later h2
  have Gg_13 : Hid (Frm w13 (.slice q6 2 d6) [0, 2]) := Gg_12.out.later h2
  clear h1 h2 H12 Gf_12 Gg_12
  go_wp2_with fail
  refine (o_done (a' := ⟨4, 5, 3, 5, 2, 2, 1, [], [], 2⟩) H13.out (by decide) (by decide) (u64_small (by decide) (by decide)) (E := 0) rfl rfl).mono ?_
  rintro e w14 ⟨rfl, h1, h2⟩
  have H14 : Hid (Own w0 w14 Q 5 ⟨4, 5, 3, 5, 2, 2, 1, [], [], 2⟩) := h1
  have Gf_14 : Hid (Frm w14 (.slice q4 2 d4) [0, 2]) := h2 _ _ Gf_13.out
  have Gg_14 : Hid (Frm w14 (.slice q6 2 d6) [0, 2]) := h2 _ _ Gg_13.out
  clear h1 h2 H13 Gf_13 Gg_13
  go_wp2_with fail
  refine (o_used H14.out (x := 2) rfl).mono ?_
  rintro e w15 ⟨rfl, h1, h2⟩
  have H15 : Hid (Own w0 w15 Q 5 ⟨4, 5, 3, 5, 2, 2, 1, [], [], 2⟩) := h1
  have Gf_15 : Hid (Frm w15 (.slice q4 2 d4) [0, 2]) := Gf_14.out.later h2
  have Gg_15 : Hid (Frm w15 (.slice q6 2 d6) [0, 2]) := Gg_14.out.later h2
  clear h1 h2 H14 Gf_14 Gg_14
  go_wp2_with fail
  refine (o_reserved H15.out (x := 0) rfl).mono ?_
  rintro e w16 ⟨rfl, h1, h2⟩
  have H16 : Hid (Own w0 w16 Q 5 ⟨4, 5, 3, 5, 2, 2, 1, [], [], 2⟩) := h1
  have Gf_16 : Hid (Frm w16 (.slice q4 2 d4) [0, 2]) := Gf_15.out.later h2
  have Gg_16 : Hid (Frm w16 (.slice q6 2 d6) [0, 2]) := Gg_15.out.later h2
  clear h1 h2 H15 Gf_15 Gg_15
  go_wp2_with fail
  refine (o_copy H16.out (by decide)).mono ?_
  rintro e w17 ⟨Q17, rfl, h1, h2⟩
  have H17 : Hid (Own w0 w17 Q 5 ⟨4, 5, 3, 5, 2, 2, 1, [], [], 2⟩) := h1
  have Gf_17 : Hid (Frm w17 (.slice q4 2 d4) [0, 2]) := Gf_16.out.later h2
  have Gg_17 : Hid (Frm w17 (.slice q6 2 d6) [0, 2]) := Gg_16.out.later h2
  clear h1 h2 H16 Gf_16 Gg_16
  go_wp2_with fail
  go_ret
  exact ⟨rfl, H17.out.below⟩
end Go.Proofs.Ytnbegddpgmejnaa
