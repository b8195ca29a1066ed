/-
  Layer 12: LedgerNames.
-/
import Derived.Test.YtjkmeljefbpbgaaLd
namespace Go.Proofs.Ytjkmeljefbpbgaa
open Go.RowKit

set_option maxHeartbeats 2000000 in
set_option maxRecDepth 100000 in
theorem ledgerNames_any (w0 : World) : Calls Try.prog 4 #[] w0 fun e w' => e = .returned (.bool true) ∧ Below w0.heap.size w0 w' := by
  go_enter Try.func4, Try.ntmps4
  go_wp2_with fail
  refine (awake_any w0).mono ?_
  rintro e wa ⟨rfl, hb⟩
  have hb0 : Hid (Below w0.heap.size w0 wa) := hb
  clear hb
  go_wp2_with fail
  refine (left_nil _ 1).mono ?_
  rintro e w' ⟨rfl, rfl⟩
  go_wp2_with fail
  refine (fits_nil _ 1).mono ?_
  rintro e wb1 ⟨rfl, hm⟩
  have hb10 : Hid (Below w0.heap.size w0 wb1) := (by obtain ⟨m, rfl⟩ := hm; exact below_then hb0.out (below_drawn m))
  clear hb0 hm
  have hb0 := hb10
  clear hb10
  go_wp2_with fail
  refine (marked_nil _).mono ?_
  rintro e wb2 ⟨rfl, hm⟩
  have hb20 : Hid (Below w0.heap.size w0 wb2) := (by obtain ⟨m, rfl⟩ := hm; exact below_then hb0.out (below_drawn m))
  clear hb0 hm
  have hb0 := hb20
  clear hb20
  go_wp2_with fail
  refine (used_nil _).mono ?_
  rintro e w' ⟨rfl, rfl⟩
  go_wp2_with fail
  refine (reserved_nil _).mono ?_
  rintro e w' ⟨rfl, rfl⟩
  go_wp2_with fail
  refine (copy_nil _).mono ?_
  rintro e w' ⟨rfl, rfl⟩
  go_wp2_with fail
  refine (reserve_nil _ 1 1).mono ?_
  rintro e w' ⟨rfl, rfl⟩
  go_wp2_with fail
  refine (append_nil _ 1).mono ?_
  rintro e w' ⟨rfl, rfl⟩
  go_wp2_with fail
  refine (close_nil _ 1).mono ?_
  rintro e w' ⟨rfl, rfl⟩
  go_wp2_with fail
  refine (free_nil _ 0).mono ?_
  rintro e w' ⟨rfl, rfl⟩
  go_wp2_with fail
  refine (new_bad _ (c := 1) (m := 1) (by decide)).mono ?_
  rintro e w' ⟨rfl, rfl⟩
  go_wp2_with fail
  refine (new_bad _ (c := 65) (m := 1) (by decide)).mono ?_
  rintro e w' ⟨rfl, rfl⟩
  go_wp2_with fail
  refine (new_bad _ (c := 4) (m := 0) (by decide)).mono ?_
  rintro e w' ⟨rfl, rfl⟩
  go_wp2_with fail
  refine (new_bad _ (c := 4) (m := 5) (by decide)).mono ?_
  rintro e w' ⟨rfl, rfl⟩
  go_wp2_with fail
  refine (o_new w0 w' hb0.out (c := 3) (m := 3) (by decide)).mono ?_
  rintro e wn ⟨rfl, h⟩
  revert h
  generalize w'.heap.size + 1 = Q
  generalize w'.heap.size = b
  intro h
  have H0 : Hid (Own w0 wn Q b 0 ⟨3, 3, 0, []⟩) := h
  clear h
  go_wp2_with fail
  refine (o_reserve H0.out (by decide) (by decide) 9 (r := 2) (s' := ⟨3, 3, 0, []⟩) (by rfl) (by rfl)).mono ?_
  rintro e w1 ⟨rfl, h⟩
  have H1 : Hid (Own w0 w1 Q b 1 ⟨3, 3, 0, []⟩) := h
  clear h H0
  go_wp2_with fail
  refine (o_reserve H1.out (by decide) (by decide) 0 (r := 2) (s' := ⟨3, 3, 0, []⟩) (by rfl) (by rfl)).mono ?_
  rintro e w2 ⟨rfl, h⟩
  have H2 : Hid (Own w0 w2 Q b 2 ⟨3, 3, 0, []⟩) := h
  clear h H1
  go_wp2_with fail
  refine (o_reserve H2.out (by decide) (by decide) 3 (r := 0) (s' := ⟨3, 3, 0, [(5, 3)]⟩) (by rfl) (by rfl)).mono ?_
  rintro e w3 ⟨rfl, h⟩
  have H3 : Hid (Own w0 w3 Q b 3 ⟨3, 3, 0, [(5, 3)]⟩) := h
  clear h H2
  go_wp2_with fail
  refine (o_append H3.out (by decide) (by decide) (r := 0) (s' := ⟨3, 3, 1, [(5, 2)]⟩) (by rfl) (by rfl)).mono ?_
  rintro e w4 ⟨rfl, h⟩
  have H4 : Hid (Own w0 w4 Q b 4 ⟨3, 3, 1, [(5, 2)]⟩) := h
  clear h H3
  go_wp2_with fail
  refine (o_append H4.out (by decide) (by decide) (r := 0) (s' := ⟨3, 3, 2, [(5, 1)]⟩) (by rfl) (by rfl)).mono ?_
  rintro e w5 ⟨rfl, h⟩
  have H5 : Hid (Own w0 w5 Q b 5 ⟨3, 3, 2, [(5, 1)]⟩) := h
  clear h H4
  go_wp2_with fail
  refine (o_append H5.out (by decide) (by decide) (r := 0) (s' := ⟨3, 3, 3, [(5, 0)]⟩) (by rfl) (by rfl)).mono ?_
  rintro e w6 ⟨rfl, h⟩
  have H6 : Hid (Own w0 w6 Q b 6 ⟨3, 3, 3, [(5, 0)]⟩) := h
  clear h H5
  go_wp2_with fail
  refine (o_marked H6.out (f := true) (by rfl)).mono ?_
  rintro e w7 ⟨rfl, h⟩
  have H7 : Hid (Own w0 w7 Q b 6 ⟨3, 3, 3, [(5, 0)]⟩) := h
  clear h H6
  go_wp2_with fail
  refine (o_append H7.out (by decide) (by decide) (r := 120) (s' := ⟨3, 3, 3, [(5, 0)]⟩) (by rfl) (by rfl)).mono ?_
  rintro e w8 ⟨rfl, h⟩
  have H8 : Hid (Own w0 w8 Q b 7 ⟨3, 3, 3, [(5, 0)]⟩) := h
  clear h H7
  go_wp2_with fail
  refine (o_close H8.out (by decide) (r := 0) (s' := ⟨3, 3, 3, []⟩) (by rfl) (by rfl)).mono ?_
  rintro e w9 ⟨rfl, h⟩
  have H9 : Hid (Own w0 w9 Q b 8 ⟨3, 3, 3, []⟩) := h
  clear h H8
  go_wp2_with fail
  refine (o_close H9.out (by decide) (r := 110) (s' := ⟨3, 3, 3, []⟩) (by rfl) (by rfl)).mono ?_
  rintro e w10 ⟨rfl, h⟩
  have H10 : Hid (Own w0 w10 Q b 9 ⟨3, 3, 3, []⟩) := h
  clear h H9
  go_wp2_with fail
  refine (o_free H10.out (4) (r := 2) (s' := ⟨3, 3, 3, []⟩) (by rfl) (by rfl)).mono ?_
  rintro e w11 ⟨rfl, h⟩
  have H11 : Hid (Own w0 w11 Q b 10 ⟨3, 3, 3, []⟩) := h
  clear h H10
  go_wp2_with fail
  refine (o_free H11.out (-1) (r := 2) (s' := ⟨3, 3, 3, []⟩) (by rfl) (by rfl)).mono ?_
  rintro e w12 ⟨rfl, h⟩
  have H12 : Hid (Own w0 w12 Q b 11 ⟨3, 3, 3, []⟩) := h
  clear h H11
  go_wp2_with fail
  refine (o_free H12.out (3) (r := 0) (s' := ⟨3, 3, 0, []⟩) (by rfl) (by rfl)).mono ?_
  rintro e w13 ⟨rfl, h⟩
  have H13 : Hid (Own w0 w13 Q b 12 ⟨3, 3, 0, []⟩) := h
  clear h H12
  go_wp2_with fail
  refine (o_used H13.out (a := 0) (by rfl)).mono ?_
  rintro e w14 ⟨rfl, h⟩
  have H14 : Hid (Own w0 w14 Q b 12 ⟨3, 3, 0, []⟩) := h
  clear h H13
  go_wp2_with fail
  refine (o_fits H14.out 3 (f := true) (by rfl)).mono ?_
  rintro e w15 ⟨rfl, h⟩
  have H15 : Hid (Own w0 w15 Q b 12 ⟨3, 3, 0, []⟩) := h
  clear h H14
  go_wp2_with fail
  go_ret
  exact ⟨rfl, H15.out.below⟩
end Go.Proofs.Ytjkmeljefbpbgaa
