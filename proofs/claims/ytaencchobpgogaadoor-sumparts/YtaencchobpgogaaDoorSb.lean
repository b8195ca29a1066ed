/-
  Contracts of layer 2, second part: times, pushZeros, Join, Turned.
-/
import Derived.Test.YtaencchobpgogaaDoorSa
namespace Go.Proofs.YtaencchobpgogaaDoor
open Go.RowKit

set_option maxHeartbeats 400000 in
theorem times_any (k a : Nat) (ha : a < 4294967296) (w : World) :
    Calls Tryd.prog 24 #[.int .u32 a, .int .u32 (hn k one : Nat)] w fun e w' => e = .returned (.int .u32 (hn k a : Nat)) ∧ w = w' := by
  have h0 := Tim.start k a ha
  have H0 : Hid (Tim k a 0 a (hn k one)) := h0
  clear h0
  go_enter Tryd.func24, Tryd.ntmps24
  go_wp2
  go_loop [0, 1, 5] (fun x y p => ∃ i j q : Nat, x = .int .u32 i ∧ y = .int .u32 j ∧ p = .int .u32 q ∧ Hid (Tim k a q i j)) (fun x _ _ => cnt 33 (intOf x).toNat)
  case atStart => exact ⟨_, _, 0, rfl, rfl, rfl, H0⟩
  case round =>
    obtain ⟨i, j, q, rfl, rfl, rfl, HT⟩ := hrel
    obtain ⟨hq, hi, hj⟩ := HT.out.lt
    have hw : IntKind.u32.wrap ((i : Int) * 2) = ((i * 2 % 4294967296 : Nat) : Int) := by rw [IntKind.wrap_u32']; omega
    have hx := u32_xor_nat q j hq hj
    by_cases hz : i = 0
    · subst hz
      have HE : Hid (q = hn k a) := HT.out.stop
      go_wp2
      go_ret
      refine ⟨?_, rfl⟩
      simp [HE.out]
    · by_cases ht : i / 2147483648 = 1
      · have HN : Hid (Tim k a (q ^^^ j) (i * 2 % 4294967296) (hv j)) := by
          have := HT.out.next hz
          rw [if_pos ht] at this
          exact this
        have ht' : (i : Int) / 2147483648 = 1 := by omega
        go_wp2_with (go_at_call 27; refine (halve_any _ hj _).mono ?_; rintro e w' ⟨rfl, rfl⟩)
        go_round
        case rel => exact ⟨_, _, _, by go_num, rfl, rfl, HN⟩
        case measure =>
          simp only [intOf]
          rw [show ((i : Int) * 2 % 4294967296).toNat = i * 2 % 4294967296 by omega]
          exact cnt_less i (by omega)
      · have HN : Hid (Tim k a q (i * 2 % 4294967296) (hv j)) := by
          have := HT.out.next hz
          rw [if_neg ht] at this
          exact this
        have ht' : ¬ (i : Int) / 2147483648 = 1 := by omega
        go_wp2_with (go_at_call 27; refine (halve_any _ hj _).mono ?_; rintro e w' ⟨rfl, rfl⟩)
        go_round
        case rel => exact ⟨_, _, _, by go_num, rfl, rfl, HN⟩
        case measure =>
          simp only [intOf]
          rw [show ((i : Int) * 2 % 4294967296).toNat = i * 2 % 4294967296 by omega]
          exact cnt_less i (by omega)

theorem and1_i64 (n : Int) : bits .and .i64 n 1 = n % 2 := by
  have h1 : (BitVec.ofInt 64 1).toNat = 2 ^ 1 - 1 := by decide
  have key : (BitVec.ofInt 64 n &&& BitVec.ofInt 64 1).toNat = (n % ((2 ^ 64 : Nat) : Int)).toNat % 2 ^ 1 := by
    rw [BitVec.toNat_and, BitVec.toNat_ofInt, h1, Nat.and_two_pow_sub_one_eq_mod]
  show IntKind.i64.wrap ((BitVec.ofInt 64 n &&& BitVec.ofInt 64 1).toNat : Nat) = n % 2
  rw [key, IntKind.wrap_i64]
  omega

set_option maxHeartbeats 400000 in
theorem pushZeros_any (x n : Nat) (hx : x < 4294967296) (hn63 : n < 9223372036854775808) (w : World) :
    Calls Tryd.prog 21 #[.int .u32 x, .int .i64 n] w fun e w' => e = .returned (.int .u32 (hn (8 * n) x : Nat)) ∧ w = w' := by
  have H0 : Hid (Zer x n 8 x n) := Zer.start x n hx
  go_enter Tryd.func21, Tryd.ntmps21
  go_wp2
  go_loop [0, 1, 5] (fun y m f => ∃ k z i : Nat, y = .int .u32 z ∧ m = .int .i64 i ∧ f = .int .u32 (hn k one : Nat) ∧ i < 9223372036854775808 ∧ Hid (Zer x n k z i)) (fun _ m _ => (intOf m).toNat)
  case atStart => exact ⟨8, x, n, rfl, rfl, by rw [hn_eight_one]; rfl, hn63, H0⟩
  case round =>
    obtain ⟨k, z, i, rfl, rfl, rfl, hi, HT⟩ := hrel
    have hz := HT.out.1
    have ho := hn_lt k one (by decide)
    have hsq : Hid (hn k (hn k one) = hn (k + k) one) := hn_sq k
    have ha := and1_i64 (i : Int)
    by_cases h0 : i = 0
    · subst h0
      have HE : Hid (z = hn (8 * n) x) := HT.out.stop
      go_wp2
      go_ret
      refine ⟨?_, rfl⟩
      simp [HE.out]
    · by_cases hodd : i % 2 = 1
      · have HN : Hid (Zer x n (k + k) (hn k z) (i / 2)) := HT.out.odd hodd
        have ho' : (i : Int) % 2 = 1 := by omega
        go_wp2_with (go_at_call 24; refine (times_any k _ (by assumption) _).mono ?_; rintro e w' ⟨rfl, rfl⟩)
        go_round
        case rel => exact ⟨k + k, _, i / 2, rfl, by go_num, by rw [hsq.out], by omega, HN⟩
        case measure => simp [intOf]; omega
      · have HN : Hid (Zer x n (k + k) z (i / 2)) := HT.out.even (by omega)
        have ho' : ¬ (i : Int) % 2 = 1 := by omega
        go_wp2_with (go_at_call 24; refine (times_any k _ (by assumption) _).mono ?_; rintro e w' ⟨rfl, rfl⟩)
        go_round
        case rel => exact ⟨k + k, _, i / 2, rfl, by go_num, by rw [hsq.out], by omega, HN⟩
        case measure => simp [intOf]; omega

/-- what Join answers -/
def joinS (a b : Nat) (n : Int) : Nat × Int := if n < 0 then (0, 2) else (hn (8 * n.toNat) a ^^^ b, 0)
/-- what Turned answers -/
def turnS (n i : Int) (x : Int) : Nat × Int := if i < 0 ∨ n ≤ i then (0, 2) else (hn (8 * (n - 1 - i).toNat) (hn 8 x.toNat), 0)

theorem joinS_no (a b : Nat) (n : Int) (h : n < 0) : joinS a b n = (0, 2) := if_pos h
theorem joinS_yes (a b : Nat) (n : Nat) : joinS a b n = (hn (8 * n) a ^^^ b, 0) := by
  unfold joinS; rw [if_neg (by omega), Int.toNat_natCast]
theorem turnS_no (n i x : Int) (h : i < 0 ∨ n ≤ i) : turnS n i x = (0, 2) := if_pos h
theorem turnS_yes (n i x : Int) (h : 0 ≤ i) (h2 : i < n) : turnS n i x = (hn (8 * (n - 1 - i).toNat) (hn 8 x.toNat), 0) := if_neg (by omega)

set_option maxHeartbeats 400000 in
theorem join_any (a b : Nat) (n : Int) (ha : a < 4294967296) (hb : b < 4294967296) (hn63 : n < 9223372036854775808) (w : World) :
    Calls Tryd.prog 11 #[.int .u32 a, .int .u32 b, .int .i64 n] w fun e w' => e = .returned (.tuple #[.int .u32 (joinS a b n).1, .int .i64 (joinS a b n).2]) ∧ w = w' := by
  by_cases h : n < 0
  · rw [joinS_no a b n h]
    go_enter Tryd.func11, Tryd.ntmps11
    go_wp2
    go_ret2
    exact ⟨rfl, rfl⟩
  · obtain ⟨m, rfl⟩ := Int.eq_ofNat_of_zero_le (show 0 ≤ n by omega)
    rw [joinS_yes a b m]
    have hl := hn_lt (8 * m) a ha
    have hx := u32_xor_nat _ b hl hb
    go_enter Tryd.func11, Tryd.ntmps11
    go_wp2_with (go_at_call 21; refine (pushZeros_any a m ha (by omega) _).mono ?_; rintro e w' ⟨rfl, rfl⟩)
    go_ret2
    exact ⟨rfl, rfl⟩

set_option maxHeartbeats 400000 in
theorem turned_any (n i x : Int) (hn1 : -9223372036854775808 ≤ n) (hn2 : n < 9223372036854775808) (hi1 : -9223372036854775808 ≤ i) (hi2 : i < 9223372036854775808) (hx0 : 0 ≤ x) (hx1 : x < 256) (w : World) (ht : Tab w) :
    Calls Tryd.prog 12 #[.int .i64 n, .int .i64 i, .int .u8 x] w fun e w' => e = .returned (.tuple #[.int .u32 (turnS n i x).1, .int .i64 (turnS n i x).2]) ∧ w = w' := by
  by_cases h : i < 0 ∨ n ≤ i
  · rw [turnS_no n i x h]
    go_enter Tryd.func12, Tryd.ntmps12
    go_wp2
    all_goals go_ret2
    all_goals exact ⟨rfl, rfl⟩
  · have h1 : 0 ≤ i := by omega
    have h2 : i < n := by omega
    rw [turnS_yes n i x h1 h2]
    obtain ⟨m, hm⟩ := Int.eq_ofNat_of_zero_le (show 0 ≤ n - 1 - i by omega)
    have hl := hn_lt 8 x.toNat (by omega)
    have HT : Hid (Tab w) := ht
    clear ht h
    go_enter Tryd.func12, Tryd.ntmps12
    go_wp2_with (first | (go_at_call 20; refine (push_any 0 x (by omega) hx0 hx1 _ HT.out).mono ?_; rintro e w' ⟨rfl, rfl⟩; rw [Nat.zero_xor]) | (go_at_call 21; refine (pushZeros_any _ m hl (by omega) _).mono ?_; rintro e w' ⟨rfl, rfl⟩))
    go_ret2
    exact ⟨by rw [hm]; rfl, rfl⟩

end Go.Proofs.YtaencchobpgogaaDoor
