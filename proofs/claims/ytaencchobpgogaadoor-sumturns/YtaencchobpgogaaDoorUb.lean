/-
  SumTurns walked, no turns; and the whole.
-/
import Derived.Test.YtaencchobpgogaaDoorUa
namespace Go.Proofs.YtaencchobpgogaaDoor
open Go.RowKit

set_option maxHeartbeats 4000000 in
theorem turns_zero (q : Option Addr) (c : Nat) (p1 : Option Addr) (n1 c1 : Nat) (x1 : List Int) (w : World) (h1 : SB w p1 n1 c1 x1) (ht : Tab w) :
    Calls Tryd.prog 5 #[.slice p1 n1 c1, .slice q 0 c] w fun e w' => e = .returned (.bool true) ∧ Below w.heap.size w w' := by
  have HT : Hid (Tab w) := ht
  have H1 : Hid (SB w p1 n1 c1 x1) := h1
  clear ht h1
  go_enter Tryd.func5, Tryd.ntmps5
  go_wp2_with fail
  refine (fixed_any _ HT.out).mono ?_
  rintro e w1 ⟨rfl, hb⟩
  have B1 : Hid (Below w.heap.size w w1) := hb
  clear hb
  go_wp2_with fail
  refine (some_x _ _ _ x1 w1 (H1.out.later B1.out)).mono ?_
  rintro e w2 ⟨p', k, c', X, rfl, s1, hb, hk⟩
  have B2 : Hid (Below w.heap.size w w2) := below_then B1.out hb
  have S2 : Hid (SB w2 p' k c' X) := s1
  clear hb s1
  go_wp2_with fail
  refine (of1_x w2 _ _ _ X S2.out (by omega) (HT.out.later B2.out)).mono ?_
  rintro e w3 ⟨rfl, hb⟩
  have B3 : Hid (Below w.heap.size w w3) := below_then B2.out hb
  have S3 : Hid (SB w3 p' k c' X) := S2.out.later hb
  clear hb
  go_wp2
  refine wp_loop_rounds 1 ?_
  rw [rounds_succ]
  go_wp2_with fail
  refine (of1_x w3 _ _ _ X S3.out (by omega) (HT.out.later B3.out)).mono ?_
  rintro e w6 ⟨rfl, hb⟩
  have H6 : Hid (Below w.heap.size w w6) := below_then B3.out hb
  clear hb
  go_wp2_with fail
  go_ret
  exact ⟨by simp, H6.out⟩

theorem sumTurns_any (p1 q : Option Addr) (n1 c1 n c : Nat) (x1 : List Int) (ts : List (Int × Int)) (w : World) (h1 : SB w p1 n1 c1 x1) (hT : TIn w q n ts) (hnb : n ≤ 140737488355328) (ht : Tab w) :
    Calls Tryd.prog 5 #[.slice p1 n1 c1, .slice q n c] w fun e w' => e = .returned (.bool true) ∧ Below w.heap.size w w' := by
  by_cases h0 : 0 < n
  · obtain ⟨b, o, rfl, _⟩ := hT.cells h0
    exact turns_loop b o n c ts p1 n1 c1 x1 w h1 hT h0 hnb ht
  · obtain rfl : n = 0 := by omega
    exact turns_zero q c p1 n1 c1 x1 w h1 ht
end Go.Proofs.YtaencchobpgogaaDoor
