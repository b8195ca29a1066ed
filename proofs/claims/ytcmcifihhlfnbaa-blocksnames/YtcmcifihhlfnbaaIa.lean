/-
  Layer 5: the statement BlocksNames: its walk.
-/
import Derived.Test.YtcmcifihhlfnbaaHa
namespace Go.Proofs.Ytcmcifihhlfnbaa
open Go.RowKit

set_option maxRecDepth 100000 in
set_option maxHeartbeats 8000000 in
theorem blocksNames_is (w0 : World) : Calls Try.prog 3 #[] w0 fun e w' => e = .returned (.bool true) ∧ Below w0.heap.size w0 w' := by
  go_enter Try.func3, Try.ntmps3
  go_wp2_with fail
  refine (awake_is w0).mono ?_
  rintro e w1 ⟨rfl, b1⟩
  go_wp2_with fail
  refine (form_lit [3, 1, 3, 0] 4 4 2 [] 52 rfl (by decide) w1 (by decide)).mono ?_
  rintro e w2 ⟨q2, d2, rfl, h2⟩
  have b2 := below_then b1 h2.below
  clear b1 h2
  go_wp2_with fail
  refine (form_lit [7, 7, 7, -1] 4 4 1 [] 51 rfl (by decide) w2 (by decide)).mono ?_
  rintro e w3 ⟨q3, d3, rfl, h3⟩
  have b3 := below_then b2 h3.below
  clear b2 h3
  go_wp2_with fail
  refine (form_is none 0 0 [] 4 3 [] 50 (by decide) w3 (by decide) (IIn.nil _ _)).mono ?_
  rintro e w4 ⟨q4, d4, rfl, h4⟩
  have b4 := below_then b3 h4.below
  clear b3 h4
  go_wp2_with fail
  refine (form_is none 0 0 [] 4 5 [] 2 (by decide) w4 (by decide) (IIn.nil _ _)).mono ?_
  rintro e w5 ⟨q5, d5, rfl, h5⟩
  have b5 := below_then b4 h5.below
  clear b4 h5
  go_wp2_with fail
  refine (form_lit [0] 1 65 1 [] 2 rfl (by decide) w5 (by decide)).mono ?_
  rintro e w6 ⟨q6, d6, rfl, h6⟩
  have b6 := below_then b5 h6.below
  clear b5 h6
  go_wp2_with fail
  refine (form_lit [0] 1 20 17 [] 2 rfl (by decide) w6 (by decide)).mono ?_
  rintro e w7 ⟨q7, d7, rfl, h7⟩
  have b7 := below_then b6 h7.below
  clear b6 h7
  go_wp2_with fail
  refine (form_lit [0] 1 4 0 [] 2 rfl (by decide) w7 (by decide)).mono ?_
  rintro e w8 ⟨q8, d8, rfl, h8⟩
  have b8 := below_then b7 h8.below
  clear b7 h8
  go_wp2_with fail
  refine (next_lit [0] 1 (-1) 0 false rfl (by decide) w8).mono ?_
  rintro e w9 ⟨rfl, k9⟩
  have b9 := below_then b8 k9
  clear b8 k9
  go_wp2_with fail
  refine (is_is none 0 0 [] w9 (IIn.nil _ _) (Nat.le_refl _) (by decide)).mono ?_
  rintro e w10 ⟨rfl, rfl⟩
  rw [show isS [] = false from by decide]
  go_wp2_with fail
  refine (is_lit [64] 1 false rfl (by decide) w9 (by decide)).mono ?_
  rintro e w10 ⟨rfl, k10⟩
  have b10 := below_then b9 k10
  clear b9 k10
  go_wp2_with fail
  refine (is_lit [-1, 0] 2 false rfl (by decide) w10 (by decide)).mono ?_
  rintro e w11 ⟨rfl, k11⟩
  have b11 := below_then b10 k11
  clear b10 k11
  go_wp2_with fail
  refine (is_lit [0, 1, 2, 3, 4, 5, 6, 7, 8, 9, 10, 11, 12, 13, 14, 15, 16] 17 false rfl (by decide) w11 (by decide)).mono ?_
  rintro e w12 ⟨rfl, k12⟩
  have b12 := below_then b11 k12
  clear b11 k12
  go_wp2_with fail
  refine (is_lit [0, 1, 2, 3, 4, 5, 6, 7, 8, 9, 10, 11, 12, 13, 14, 63] 16 true rfl (by decide) w12 (by decide)).mono ?_
  rintro e w13 ⟨rfl, k13⟩
  have b13 := below_then b12 k13
  clear b12 k13
  have HB : Hid (Below w0.heap.size w0 w13) := b13
  clear b13
  go_wp2
  go_ret
  exact ⟨rfl, HB.out⟩

end Go.Proofs.Ytcmcifihhlfnbaa
