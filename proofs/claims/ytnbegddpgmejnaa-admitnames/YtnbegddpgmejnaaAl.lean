/-
  Layer 13: AdmitNames.
-/
import Derived.Test.YtnbegddpgmejnaaAk
namespace Go.Proofs.Ytnbegddpgmejnaa
open Go.RowKit


theorem same_below {P : Program} {f : FuncId} {args : Array Value} {w : World} {r : Ending} (h : Calls P f args w fun e w' => e = r ∧ w' = w) : Calls P f args w fun e w' => e = r ∧ Below w.heap.size w w' := h.mono fun e w' ⟨h1, h2⟩ => ⟨h1, by rw [h2]; exact Below.refl _ _⟩
theorem waitN (w : World) : Calls Try.prog 9 #[nilq] w fun e w' => ∃ p c, e = .returned (.slice p 0 c) ∧ Below w.heap.size w w' := (waiting_nil w).mono fun e w' ⟨v, h1, h2⟩ => by
  obtain ⟨p, c, rfl, _⟩ := h2.read
  exact ⟨p, c, h1, h2.below⟩
set_option maxHeartbeats 8000000 in
set_option maxRecDepth 100000 in
theorem names_any (w0 : World) : Calls Try.prog 3 #[] w0 fun e w' => e = .returned (.bool true) ∧ Below w0.heap.size w0 w' := by
  have HB0 : Hid (Below w0.heap.size w0 w0) := Below.refl _ _
  go_enter Try.func3, Try.ntmps3
  go_wp2_with fail
  refine (fixed_any _).mono ?_
  rintro e wf ⟨rfl, hb⟩
  have HBf : Hid (Below w0.heap.size w0 wf) := hb
  clear hb HB0
  go_wp2_with fail
  refine (small_any _).mono ?_
  rintro e w1 ⟨rfl, hb⟩
  have HB1 : Hid (Below w0.heap.size w0 w1) := HBf.out.trans (hb.mono HBf.out.size)
  clear hb HBf
  go_wp2_with fail
  refine (o_new w0 _ HB1.out (by decide)).mono ?_
  rintro e w2 ⟨Q, rfl, h1⟩
  have H2 : Hid (Own w0 w2 Q 0 ⟨4, 5, 3, 5, 2, 1, 0, [], [], 0⟩) := h1
  clear h1 HB1
  go_wp2_with fail
  refine (o_begin (a' := ⟨4, 5, 3, 5, 2, 2, 0, [(1, [0, 2])], [], 0⟩) (H2.out.later (below_alloc _ _)) (by decide) (by decide) (B.lit_in _ [2, 0, 2] 3 rfl) (by decide) (t := 1) (f := [0, 2]) (E := 0) rfl rfl rfl rfl).mono ?_
  rintro e w3 ⟨q3, d3, rfl, hf, h1, h2⟩
  have Gf3 : Hid (Frm w3 (.slice q3 2 d3) [0, 2]) := hf
  clear hf
  have H3 : Hid (Own w0 w3 Q 1 ⟨4, 5, 3, 5, 2, 2, 0, [(1, [0, 2])], [], 0⟩) := h1
  clear h1 h2 H2
  clear Gf3
  go_wp2_with fail
  refine (o_begin (a' := ⟨4, 5, 3, 5, 2, 3, 0, [(1, [0, 2]), (2, [3])], [], 0⟩) (H3.out.later (below_alloc _ _)) (by decide) (by decide) (B.lit_in _ [3] 1 rfl) (by decide) (t := 2) (f := [3]) (E := 0) rfl rfl rfl rfl).mono ?_
  rintro e w4 ⟨q4, d4, rfl, hf, h1, h2⟩
  have Gf4 : Hid (Frm w4 (.slice q4 1 d4) [3]) := hf
  clear hf
  have H4 : Hid (Own w0 w4 Q 2 ⟨4, 5, 3, 5, 2, 3, 0, [(1, [0, 2]), (2, [3])], [], 0⟩) := h1
  clear h1 h2 H3
  clear Gf4
  go_wp2_with fail
  refine (o_begin (a' := ⟨4, 5, 3, 5, 2, 3, 0, [(1, [0, 2]), (2, [3])], [], 0⟩) H4.out (by decide) (by decide) (B.IIn.nil _ _) (by decide) (t := 0) (f := []) (E := 50) rfl rfl rfl rfl).mono ?_
  rintro e w5 ⟨q5, d5, rfl, hf, h1, h2⟩
  have Gf5 : Hid (Frm w5 (.slice q5 0 d5) []) := hf
  clear hf
  have H5 : Hid (Own w0 w5 Q 3 ⟨4, 5, 3, 5, 2, 3, 0, [(1, [0, 2]), (2, [3])], [], 0⟩) := h1
  clear h1 h2 H4
  clear Gf5
  go_wp2_with fail
  refine (o_begin (a' := ⟨4, 5, 3, 5, 2, 3, 0, [(1, [0, 2]), (2, [3])], [], 0⟩) (H5.out.later (below_alloc _ _)) (by decide) (by decide) (B.lit_in _ [4, 0] 2 rfl) (by decide) (t := 0) (f := []) (E := 51) rfl rfl rfl rfl).mono ?_
  rintro e w6 ⟨q6, d6, rfl, hf, h1, h2⟩
  have Gf6 : Hid (Frm w6 (.slice q6 0 d6) []) := hf
  clear hf
  have H6 : Hid (Own w0 w6 Q 4 ⟨4, 5, 3, 5, 2, 3, 0, [(1, [0, 2]), (2, [3])], [], 0⟩) := h1
  clear h1 h2 H5
  clear Gf6
  go_wp2_with fail
  refine (o_begin (a' := ⟨4, 5, 3, 5, 2, 3, 0, [(1, [0, 2]), (2, [3])], [], 0⟩) (H6.out.later (below_alloc _ _)) (by decide) (by decide) (B.lit_in _ [0, 1, 2, 3] 4 rfl) (by decide) (t := 0) (f := []) (E := 52) rfl rfl rfl rfl).mono ?_
  rintro e w7 ⟨q7, d7, rfl, hf, h1, h2⟩
  have Gf7 : Hid (Frm w7 (.slice q7 0 d7) []) := hf
  clear hf
  have H7 : Hid (Own w0 w7 Q 5 ⟨4, 5, 3, 5, 2, 3, 0, [(1, [0, 2]), (2, [3])], [], 0⟩) := h1
  clear h1 h2 H6
  clear Gf7
  go_wp2_with fail
  refine (o_waiting H7.out (by decide) (l := [1, 2]) rfl).mono ?_
  rintro e w8 ⟨v8, rfl, hm, h1, h2⟩
  obtain ⟨p8, c8, rfl, hU, _⟩ := hm.read
  have Uw : Hid (UIn w8 p8 2 [1, 2]) := hU
  clear hU hm
  have H8 : Hid (Own w0 w8 Q 5 ⟨4, 5, 3, 5, 2, 3, 0, [(1, [0, 2]), (2, [3])], [], 0⟩) := h1
  clear h1 h2 H7
  go_wp2_with fail
  refine (o_sameT (H8.out.later (below_alloc _ _)) (Uw.out.later (below_alloc _ _)) (by decide) (litU_in _ [1, 2] 2 rfl) (y := true) (by decide)).mono ?_
  rintro e w9 ⟨rfl, h1, h2⟩
  have H9 : Hid (Own w0 w9 Q 5 ⟨4, 5, 3, 5, 2, 3, 0, [(1, [0, 2]), (2, [3])], [], 0⟩) := h1
  have Uw_9 : Hid (UIn w9 p8 2 [1, 2]) := (Uw.out.later (below_alloc _ _)).later h2
  clear h1 h2 H8 Uw
  go_wp2_with fail
  refine (o_enter (a' := ⟨4, 5, 3, 5, 2, 3, 1, [(2, [3])], [(1, [0, 2], 3)], 0⟩) H9.out (by decide) (by decide) (t := 1) (f := [0, 2]) (E := 0) rfl rfl rfl rfl).mono ?_
  rintro e w10 ⟨q10, d10, rfl, hf, h1, h2⟩
  have Gf10 : Hid (Frm w10 (.slice q10 2 d10) [0, 2]) := hf
  clear hf
  have H10 : Hid (Own w0 w10 Q 6 ⟨4, 5, 3, 5, 2, 3, 1, [(2, [3])], [(1, [0, 2], 3)], 0⟩) := h1
  clear h1 h2 H9 Uw_9
  clear Gf10
  go_wp2_with fail
  refine (o_fits H10.out (by decide) (y := true) rfl).mono ?_
  rintro e w11 ⟨rfl, h1, h2⟩
  have H11 : Hid (Own w0 w11 Q 6 ⟨4, 5, 3, 5, 2, 3, 1, [(2, [3])], [(1, [0, 2], 3)], 0⟩) := h1
  clear h1 h2 H10
  go_wp2_with fail
  refine (o_enter (a' := ⟨4, 5, 3, 5, 2, 3, 2, [], [(1, [0, 2], 3), (2, [3], 2)], 0⟩) H11.out (by decide) (by decide) (t := 2) (f := [3]) (E := 0) rfl rfl rfl rfl).mono ?_
  rintro e w12 ⟨q12, d12, rfl, hf, h1, h2⟩
  have Gf12 : Hid (Frm w12 (.slice q12 1 d12) [3]) := hf
  clear hf
  have H12 : Hid (Own w0 w12 Q 7 ⟨4, 5, 3, 5, 2, 3, 2, [], [(1, [0, 2], 3), (2, [3], 2)], 0⟩) := h1
  clear h1 h2 H11
  clear Gf12
  go_wp2_with fail
  refine (o_enter (a' := ⟨4, 5, 3, 5, 2, 3, 2, [], [(1, [0, 2], 3), (2, [3], 2)], 0⟩) H12.out (by decide) (by decide) (t := 0) (f := []) (E := 110) rfl rfl rfl rfl).mono ?_
  rintro e w13 ⟨q13, d13, rfl, hf, h1, h2⟩
  have Gf13 : Hid (Frm w13 (.slice q13 0 d13) []) := hf
  clear hf
  have H13 : Hid (Own w0 w13 Q 8 ⟨4, 5, 3, 5, 2, 3, 2, [], [(1, [0, 2], 3), (2, [3], 2)], 0⟩) := h1
  clear h1 h2 H12
  clear Gf13
  go_wp2_with fail
  refine (o_in H13.out (by decide) (l := [1, 2]) rfl).mono ?_
  rintro e w14 ⟨v14, rfl, hm, h1, h2⟩
  obtain ⟨p14, c14, rfl, hU, _⟩ := hm.read
  have Ui : Hid (UIn w14 p14 2 [1, 2]) := hU
  clear hU hm
  have H14 : Hid (Own w0 w14 Q 8 ⟨4, 5, 3, 5, 2, 3, 2, [], [(1, [0, 2], 3), (2, [3], 2)], 0⟩) := h1
  clear h1 h2 H13
  go_wp2_with fail
  refine (o_reserved H14.out (x := 5) rfl).mono ?_
  rintro e w15 ⟨rfl, h1, h2⟩
  have H15 : Hid (Own w0 w15 Q 8 ⟨4, 5, 3, 5, 2, 3, 2, [], [(1, [0, 2], 3), (2, [3], 2)], 0⟩) := h1
  have Ui_15 : Hid (UIn w15 p14 2 [1, 2]) := Ui.out.later h2
  clear h1 h2 H14 Ui
  go_wp2_with fail
  refine (o_sameT (H15.out.later (below_alloc _ _)) (Ui_15.out.later (below_alloc _ _)) (by decide) (litU_in _ [1, 2] 2 rfl) (y := true) (by decide)).mono ?_
  rintro e w16 ⟨rfl, h1, h2⟩
  have H16 : Hid (Own w0 w16 Q 8 ⟨4, 5, 3, 5, 2, 3, 2, [], [(1, [0, 2], 3), (2, [3], 2)], 0⟩) := h1
  have Ui_16 : Hid (UIn w16 p14 2 [1, 2]) := (Ui_15.out.later (below_alloc _ _)).later h2
  clear h1 h2 H15 Ui_15
  go_wp2_with fail
  refine (o_append (a' := ⟨4, 5, 3, 5, 2, 3, 2, [], [(1, [0, 2], 2), (2, [3], 2)], 1⟩) H16.out (by decide) (u64_small (by decide) (by decide)) (E := 0) rfl rfl).mono ?_
  rintro e w17 ⟨rfl, h1, h2⟩
  have H17 : Hid (Own w0 w17 Q 9 ⟨4, 5, 3, 5, 2, 3, 2, [], [(1, [0, 2], 2), (2, [3], 2)], 1⟩) := h1
  clear h1 h2 H16 Ui_16
  go_wp2_with fail
  refine (o_append (a' := ⟨4, 5, 3, 5, 2, 3, 2, [], [(1, [0, 2], 1), (2, [3], 2)], 2⟩) H17.out (by decide) (u64_small (by decide) (by decide)) (E := 0) rfl rfl).mono ?_
  rintro e w18 ⟨rfl, h1, h2⟩
  have H18 : Hid (Own w0 w18 Q 10 ⟨4, 5, 3, 5, 2, 3, 2, [], [(1, [0, 2], 1), (2, [3], 2)], 2⟩) := h1
  clear h1 h2 H17
  go_wp2_with fail
  refine (o_append (a' := ⟨4, 5, 3, 5, 2, 3, 2, [], [(1, [0, 2], 1), (2, [3], 2)], 2⟩) H18.out (by decide) (u64_small (by decide) (by decide)) (E := 120) rfl rfl).mono ?_
  rintro e w19 ⟨rfl, h1, h2⟩
  have H19 : Hid (Own w0 w19 Q 11 ⟨4, 5, 3, 5, 2, 3, 2, [], [(1, [0, 2], 1), (2, [3], 2)], 2⟩) := h1
  clear h1 h2 H18
  go_wp2_with fail
  refine (o_leave (a' := ⟨4, 5, 3, 5, 2, 3, 2, [], [(1, [0, 2], 1), (2, [3], 2)], 2⟩) H19.out (by decide) (by decide) (u64_small (by decide) (by decide)) (E := 180) rfl rfl).mono ?_
  rintro e w20 ⟨rfl, h1, h2⟩
  have H20 : Hid (Own w0 w20 Q 13 ⟨4, 5, 3, 5, 2, 3, 2, [], [(1, [0, 2], 1), (2, [3], 2)], 2⟩) := h1
  clear h1 h2 H19
  go_wp2_with fail
  refine (o_done (a' := ⟨4, 5, 3, 5, 2, 3, 2, [], [(2, [3], 2)], 3⟩) H20.out (by decide) (by decide) (u64_small (by decide) (by decide)) (E := 0) rfl rfl).mono ?_
  rintro e w21 ⟨rfl, h1, h2⟩
  have H21 : Hid (Own w0 w21 Q 15 ⟨4, 5, 3, 5, 2, 3, 2, [], [(2, [3], 2)], 3⟩) := h1
  clear h1 h2 H20
  go_wp2_with fail
  refine (o_done (a' := ⟨4, 5, 3, 5, 2, 3, 2, [], [(2, [3], 2)], 3⟩) H21.out (by decide) (by decide) (u64_small (by decide) (by decide)) (E := 110) rfl rfl).mono ?_
  rintro e w22 ⟨rfl, h1, h2⟩
  have H22 : Hid (Own w0 w22 Q 17 ⟨4, 5, 3, 5, 2, 3, 2, [], [(2, [3], 2)], 3⟩) := h1
  clear h1 h2 H21
  go_wp2_with fail
  refine (o_used H22.out (x := 3) rfl).mono ?_
  rintro e w23 ⟨rfl, h1, h2⟩
  have H23 : Hid (Own w0 w23 Q 17 ⟨4, 5, 3, 5, 2, 3, 2, [], [(2, [3], 2)], 3⟩) := h1
  clear h1 h2 H22
  go_wp2_with fail
  refine (o_reserved H23.out (x := 2) rfl).mono ?_
  rintro e w24 ⟨rfl, h1, h2⟩
  have H24 : Hid (Own w0 w24 Q 17 ⟨4, 5, 3, 5, 2, 3, 2, [], [(2, [3], 2)], 3⟩) := h1
  clear h1 h2 H23
  go_wp2_with fail
  refine (o_leave (a' := ⟨4, 5, 3, 5, 2, 3, 2, [], [], 3⟩) H24.out (by decide) (by decide) (u64_small (by decide) (by decide)) (E := 0) rfl rfl).mono ?_
  rintro e w25 ⟨rfl, h1, h2⟩
  have H25 : Hid (Own w0 w25 Q 19 ⟨4, 5, 3, 5, 2, 3, 2, [], [], 3⟩) := h1
  clear h1 h2 H24
  go_wp2_with fail
  refine (o_freed (a' := ⟨4, 5, 3, 5, 2, 3, 2, [], [], 3⟩) H25.out 4 (E := 2) rfl rfl).mono ?_
  rintro e w26 ⟨rfl, h1, h2⟩
  have H26 : Hid (Own w0 w26 Q 20 ⟨4, 5, 3, 5, 2, 3, 2, [], [], 3⟩) := h1
  clear h1 h2 H25
  go_wp2_with fail
  refine (o_freed (a' := ⟨4, 5, 3, 5, 2, 3, 2, [], [], 2⟩) H26.out 1 (E := 0) rfl rfl).mono ?_
  rintro e w27 ⟨rfl, h1, h2⟩
  have H27 : Hid (Own w0 w27 Q 21 ⟨4, 5, 3, 5, 2, 3, 2, [], [], 2⟩) := h1
  clear h1 h2 H26
  go_wp2_with fail
  refine (o_begin (a' := ⟨4, 5, 3, 5, 2, 4, 2, [(3, [0, 1, 2])], [], 2⟩) (H27.out.later (below_alloc _ _)) (by decide) (by decide) (B.lit_in _ [0, 1, 2] 3 rfl) (by decide) (t := 3) (f := [0, 1, 2]) (E := 0) rfl rfl rfl rfl).mono ?_
  rintro e w28 ⟨q28, d28, rfl, hf, h1, h2⟩
  have Gf28 : Hid (Frm w28 (.slice q28 3 d28) [0, 1, 2]) := hf
  clear hf
  have H28 : Hid (Own w0 w28 Q 22 ⟨4, 5, 3, 5, 2, 4, 2, [(3, [0, 1, 2])], [], 2⟩) := h1
  clear h1 h2 H27
  clear Gf28
  go_wp2_with fail
  refine (o_fits H28.out (by decide) (y := false) rfl).mono ?_
  rintro e w29 ⟨rfl, h1, h2⟩
  have H29 : Hid (Own w0 w29 Q 22 ⟨4, 5, 3, 5, 2, 4, 2, [(3, [0, 1, 2])], [], 2⟩) := h1
  clear h1 h2 H28
  go_wp2_with fail
  refine (o_enter (a' := ⟨4, 5, 3, 5, 2, 4, 2, [(3, [0, 1, 2])], [], 2⟩) H29.out (by decide) (by decide) (t := 0) (f := []) (E := 120) rfl rfl rfl rfl).mono ?_
  rintro e w30 ⟨q30, d30, rfl, hf, h1, h2⟩
  have Gf30 : Hid (Frm w30 (.slice q30 0 d30) []) := hf
  clear hf
  have H30 : Hid (Own w0 w30 Q 23 ⟨4, 5, 3, 5, 2, 4, 2, [(3, [0, 1, 2])], [], 2⟩) := h1
  clear h1 h2 H29
  clear Gf30
  go_wp2_with fail
  refine (o_freed (a' := ⟨4, 5, 3, 5, 2, 4, 2, [(3, [0, 1, 2])], [], 1⟩) H30.out 1 (E := 0) rfl rfl).mono ?_
  rintro e w31 ⟨rfl, h1, h2⟩
  have H31 : Hid (Own w0 w31 Q 24 ⟨4, 5, 3, 5, 2, 4, 2, [(3, [0, 1, 2])], [], 1⟩) := h1
  clear h1 h2 H30
  go_wp2_with fail
  refine (same_below (begin_nil _ _)).mono ?_
  rintro e w32 ⟨rfl, hb⟩
  have H32 : Hid (Own w0 w32 Q 24 ⟨4, 5, 3, 5, 2, 4, 2, [(3, [0, 1, 2])], [], 1⟩) := (H31.out.later (below_alloc _ _)).later hb
  clear hb H31
  go_wp2_with fail
  refine (same_below (enter_nil _)).mono ?_
  rintro e w33 ⟨rfl, hb⟩
  have H33 : Hid (Own w0 w33 Q 24 ⟨4, 5, 3, 5, 2, 4, 2, [(3, [0, 1, 2])], [], 1⟩) := H32.out.later hb
  clear hb H32
  go_wp2_with fail
  refine (First_nil _).mono ?_
  rintro e w34 ⟨rfl, hb⟩
  have H34 : Hid (Own w0 w34 Q 24 ⟨4, 5, 3, 5, 2, 4, 2, [(3, [0, 1, 2])], [], 1⟩) := H33.out.later hb
  clear hb H33
  go_wp2_with fail
  refine (same_below (left_nil _ _)).mono ?_
  rintro e w35 ⟨rfl, hb⟩
  have H35 : Hid (Own w0 w35 Q 24 ⟨4, 5, 3, 5, 2, 4, 2, [(3, [0, 1, 2])], [], 1⟩) := H34.out.later hb
  clear hb H34
  go_wp2_with fail
  refine (fits_nil _).mono ?_
  rintro e w36 ⟨rfl, hb⟩
  have H36 : Hid (Own w0 w36 Q 24 ⟨4, 5, 3, 5, 2, 4, 2, [(3, [0, 1, 2])], [], 1⟩) := H35.out.later hb
  clear hb H35
  go_wp2_with fail
  refine (same_below (append_nil _ _)).mono ?_
  rintro e w37 ⟨rfl, hb⟩
  have H37 : Hid (Own w0 w37 Q 24 ⟨4, 5, 3, 5, 2, 4, 2, [(3, [0, 1, 2])], [], 1⟩) := H36.out.later hb
  clear hb H36
  go_wp2_with fail
  refine (same_below (done_nil _ _)).mono ?_
  rintro e w38 ⟨rfl, hb⟩
  have H38 : Hid (Own w0 w38 Q 24 ⟨4, 5, 3, 5, 2, 4, 2, [(3, [0, 1, 2])], [], 1⟩) := H37.out.later hb
  clear hb H37
  go_wp2_with fail
  refine (same_below (leave_nilL _ _)).mono ?_
  rintro e w39 ⟨rfl, hb⟩
  have H39 : Hid (Own w0 w39 Q 24 ⟨4, 5, 3, 5, 2, 4, 2, [(3, [0, 1, 2])], [], 1⟩) := H38.out.later hb
  clear hb H38
  go_wp2_with fail
  refine (same_below (freed_nil _ _)).mono ?_
  rintro e w40 ⟨rfl, hb⟩
  have H40 : Hid (Own w0 w40 Q 24 ⟨4, 5, 3, 5, 2, 4, 2, [(3, [0, 1, 2])], [], 1⟩) := H39.out.later hb
  clear hb H39
  go_wp2_with fail
  refine (same_below (used_nil _)).mono ?_
  rintro e w41 ⟨rfl, hb⟩
  have H41 : Hid (Own w0 w41 Q 24 ⟨4, 5, 3, 5, 2, 4, 2, [(3, [0, 1, 2])], [], 1⟩) := H40.out.later hb
  clear hb H40
  go_wp2_with fail
  refine (same_below (reserved_nil _)).mono ?_
  rintro e w42 ⟨rfl, hb⟩
  have H42 : Hid (Own w0 w42 Q 24 ⟨4, 5, 3, 5, 2, 4, 2, [(3, [0, 1, 2])], [], 1⟩) := H41.out.later hb
  clear hb H41
  go_wp2_with fail
  refine (waitN _).mono ?_
  rintro e w43 ⟨p, c, rfl, hb⟩
  have H43 : Hid (Own w0 w43 Q 24 ⟨4, 5, 3, 5, 2, 4, 2, [(3, [0, 1, 2])], [], 1⟩) := H42.out.later hb
  clear hb H42
  go_wp2_with fail
  refine (same_below (in_nil _)).mono ?_
  rintro e w44 ⟨rfl, hb⟩
  have H44 : Hid (Own w0 w44 Q 24 ⟨4, 5, 3, 5, 2, 4, 2, [(3, [0, 1, 2])], [], 1⟩) := H43.out.later hb
  clear hb H43
  go_wp2_with fail
  refine (same_below (copy_nilL _)).mono ?_
  rintro e w45 ⟨rfl, hb⟩
  have H45 : Hid (Own w0 w45 Q 24 ⟨4, 5, 3, 5, 2, 4, 2, [(3, [0, 1, 2])], [], 1⟩) := H44.out.later hb
  clear hb H44
  go_wp2_with fail
  refine (o_fits H45.out (by decide) (y := true) rfl).mono ?_
  rintro e w46 ⟨rfl, h1, h2⟩
  have H46 : Hid (Own w0 w46 Q 24 ⟨4, 5, 3, 5, 2, 4, 2, [(3, [0, 1, 2])], [], 1⟩) := h1
  clear h1 h2 H45
  go_wp2_with fail
  go_ret
  exact ⟨rfl, H46.out.below⟩
end Go.Proofs.Ytnbegddpgmejnaa
