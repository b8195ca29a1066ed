/-
  SumJoins walked.
-/
import Derived.Test.YtaencchobpgogaaDoorRc
import Derived.Test.YtaencchobpgogaaDoorSd
namespace Go.Proofs.YtaencchobpgogaaDoor
open Go.RowKit

set_option maxHeartbeats 1000000 in
theorem sumJoins_any (a b : Nat) (n i x : Int) (ha : a < 4294967296) (hb : b < 4294967296) (hn1 : -9223372036854775808 ≤ n) (hn2 : n < 9223372036854775808) (hi1 : -9223372036854775808 ≤ i) (hi2 : i < 9223372036854775808) (hx0 : 0 ≤ x) (hx1 : x < 256) (w : World) (ht : Tab w) :
    Calls Tryd.prog 8 #[.int .u32 a, .int .u32 b, .int .i64 n, .int .i64 i, .int .u8 x] w fun e w' => e = .returned (.bool true) ∧ Below w.heap.size w w' := by
  have HT : Hid (Tab w) := ht
  clear ht
  generalize hJ : joinS a b n = J
  generalize hU : turnS n i x = U
  have HJ : Hid (joinS a b n = J) := hJ
  have HU : Hid (turnS n i x = U) := hU
  clear hJ hU
  go_enter Tryd.func8, Tryd.ntmps8
  go_wp2_with fail
  refine (fixed_any _ HT.out).mono ?_
  rintro e w1 ⟨rfl, hb1⟩
  have HB1 : Hid (Below w.heap.size w w1) := hb1
  clear hb1
  go_wp2_with fail
  have c1 := join_any a b n ha hb hn2 w1
  rw [HJ.out] at c1
  refine c1.mono ?_
  clear c1
  rintro e w' ⟨rfl, rfl⟩
  go_wp2_with fail
  have c1 := refJoin_any a b n ha hb hn2 w1
  rw [HJ.out] at c1
  refine c1.mono ?_
  clear c1
  rintro e w2 ⟨rfl, hb2⟩
  have HB2 : Hid (Below w.heap.size w w2) := below_then HB1.out hb2
  clear hb2
  go_wp2_with fail
  have c1 := turned_any n i x hn1 hn2 hi1 hi2 hx0 hx1 w2 (HT.out.later HB2.out)
  rw [HU.out] at c1
  refine c1.mono ?_
  clear c1
  rintro e w' ⟨rfl, rfl⟩
  go_wp2_with fail
  have c1 := refTurned_any n i x hn1 hn2 hi1 hi2 hx0 hx1 w2
  rw [HU.out] at c1
  refine c1.mono ?_
  clear c1
  rintro e w3 ⟨rfl, hb3⟩
  have HB3 : Hid (Below w.heap.size w w3) := below_then HB2.out hb3
  clear hb3
  go_wp2_with fail
  go_ret
  exact ⟨by simp, HB3.out⟩
end Go.Proofs.YtaencchobpgogaaDoor
