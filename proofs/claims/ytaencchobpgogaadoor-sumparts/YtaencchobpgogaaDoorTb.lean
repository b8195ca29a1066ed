/-
  SumTexts walked.
-/
import Derived.Test.YtaencchobpgogaaDoorTa
namespace Go.Proofs.YtaencchobpgogaaDoor
open Go.RowKit

/-- a value that is a []byte of these numbers, as the calls want it -/
structure SB (w : World) (p : Option Addr) (n c : Nat) (xs : List Int) : Prop where
  inn : BIn w p n xs
  le : n ≤ c
  nil : p = none → c = 0
theorem SB.later {w w' : World} {p : Option Addr} {n c : Nat} {xs : List Int} (h : SB w p n c xs) (hb : Below w.heap.size w w') : SB w' p n c xs := ⟨h.inn.later hb, h.le, h.nil⟩

theorem some_x (p : Option Addr) (n c : Nat) (xs : List Int) (w : World) (h : SB w p n c xs) :
    Calls Tryd.prog 13 #[.slice p n c] w fun e w' => ∃ p' m c' X, e = .returned (.slice p' m c') ∧ SB w' p' m c' X ∧ Below w.heap.size w w' ∧ m ≤ 3000 := by
  refine (some_any p n c xs w h.inn h.nil h.le).mono ?_
  rintro e w' ⟨v, m, X, rfl, ho, hb, hx, hl, hm⟩
  obtain ⟨p', c', rfl, hB, hnc, hp, _⟩ := own_in ho hx
  exact ⟨p', m, c', X, rfl, ⟨hB, hnc, hp⟩, hb, hm⟩

theorem of1_x (W : World) (p : Option Addr) (n c : Nat) (xs : List Int) (h : SB W p n c xs) (hbig : n ≤ 4000) (ht : Tab W) :
    Calls Tryd.prog 10 #[.slice (some ⟨W.heap.size, 0, none⟩) 1 1] (W.alloc (.cells #[.slice p n c] 25)) fun e w' => e = .returned (.int .u32 (crc xs : Nat)) ∧ Below W.heap.size W w' := by
  refine (of_one W p n c xs h.inn h.le h.nil (by omega) ht).mono ?_
  rintro e w' ⟨rfl, rfl⟩
  exact ⟨rfl, below_alloc _ _⟩
theorem of2_x (W : World) (p q : Option Addr) (n c m d : Nat) (xs ys : List Int) (h : SB W p n c xs) (h' : SB W q m d ys) (hn : n ≤ 4000) (hm : m ≤ 4000) (ht : Tab W) :
    Calls Tryd.prog 10 #[.slice (some ⟨W.heap.size, 0, none⟩) 2 2] (W.alloc (.cells #[.slice p n c, .slice q m d] 25)) fun e w' => e = .returned (.int .u32 (crc (xs ++ ys) : Nat)) ∧ Below W.heap.size W w' := by
  refine (of_two W p q n c m d xs ys h.inn h.le h.nil h'.inn h'.le h'.nil (by omega) ht).mono ?_
  rintro e w' ⟨rfl, rfl⟩
  exact ⟨rfl, below_alloc _ _⟩
theorem of3_x (W : World) (p q r : Option Addr) (n c m d l f : Nat) (xs ys zs : List Int) (h : SB W p n c xs) (h' : SB W q m d ys) (h'' : SB W r l f zs) (hn : n ≤ 4000) (hm : m ≤ 4000) (hl : l ≤ 4000) (ht : Tab W) :
    Calls Tryd.prog 10 #[.slice (some ⟨W.heap.size, 0, none⟩) 3 3] (W.alloc (.cells #[.slice p n c, .slice q m d, .slice r l f] 25)) fun e w' => e = .returned (.int .u32 (crc (xs ++ ys ++ zs) : Nat)) ∧ Below W.heap.size W w' := by
  refine (of_three W p q r n c m d l f xs ys zs h.inn h.le h.nil h'.inn h'.le h'.nil h''.inn h''.le h''.nil (by omega) ht).mono ?_
  rintro e w' ⟨rfl, rfl⟩
  exact ⟨rfl, below_alloc _ _⟩

theorem join_x (w : World) (a b n : Nat) (ha : a < 4294967296) (hb : b < 4294967296) (hn9 : n < 9223372036854775808) :
    Calls Tryd.prog 11 #[.int .u32 a, .int .u32 b, .int .i64 n] w fun e w' => e = .returned (.tuple #[.int .u32 (hn (8 * n) a ^^^ b : Nat), .int .i64 0]) ∧ w = w' := by
  have := join_any a b n ha hb (by omega) w
  rw [joinS_yes] at this
  exact this

theorem half_of (z : Int) (h0 : 0 ≤ z) (h1 : z ≤ 9223372036854775807) : ∃ N : Nat, N ≤ 4611686018427387903 ∧ wrap64 (z.tdiv 2) = (N : Int) ∧ z.tdiv 2 = (N : Int) ∧ z / 2 = (N : Int) := by
  have e : z.tdiv 2 = z / 2 := Int.tdiv_eq_ediv_of_nonneg h0
  refine ⟨(z / 2).toNat, by omega, ?_, ?_, by omega⟩
  · unfold wrap64; rw [e]; omega
  · rw [e]; omega
theorem halfA (n : Int) (h1 : -9223372036854775808 ≤ n) (h2 : n ≤ 9223372036854775807) (h : n < wrap64 (-wrap64 (n + 1))) : ∃ N : Nat, N ≤ 4611686018427387903 ∧ wrap64 ((wrap64 (-wrap64 (n + 1))).tdiv 2) = (N : Int) ∧ (wrap64 (-wrap64 (n + 1))).tdiv 2 = (N : Int) ∧ wrap64 (-wrap64 (n + 1)) / 2 = (N : Int) := by
  refine half_of _ ?_ ?_ <;> unfold wrap64 at * <;> omega
theorem halfB (n : Int) (h1 : -9223372036854775808 ≤ n) (h2 : n ≤ 9223372036854775807) (h : wrap64 (-wrap64 (n + 1)) ≤ n) : ∃ N : Nat, N ≤ 4611686018427387903 ∧ wrap64 (n.tdiv 2) = (N : Int) ∧ n.tdiv 2 = (N : Int) ∧ n / 2 = (N : Int) := by
  refine half_of _ ?_ ?_ <;> unfold wrap64 at * <;> omega

set_option maxHeartbeats 2000000 in
theorem sumTexts_any (p1 p2 p3 : Option Addr) (n1 n2 n3 c1 c2 c3 : Nat) (x1 x2 x3 : List Int) (n m : Int) (w : World) (h1 : SB w p1 n1 c1 x1) (h2 : SB w p2 n2 c2 x2) (h3 : SB w p3 n3 c3 x3)
    (hn1 : -9223372036854775808 ≤ n) (hn2 : n ≤ 9223372036854775807) (hm1 : -9223372036854775808 ≤ m) (hm2 : m ≤ 9223372036854775807) (ht : Tab w) :
    Calls Tryd.prog 4 #[.slice p1 n1 c1, .slice p2 n2 c2, .slice p3 n3 c3, .int .i64 n, .int .i64 m] w fun e w' => e = .returned (.bool true) ∧ Below w.heap.size w w' := by
  have HT : Hid (Tab w) := ht
  have H1 : Hid (SB w p1 n1 c1 x1) := h1
  have H2 : Hid (SB w p2 n2 c2 x2) := h2
  have H3 : Hid (SB w p3 n3 c3 x3) := h3
  clear ht h1 h2 h3
  go_enter Tryd.func4, Tryd.ntmps4
  go_wp2_with fail
  refine (fixed_any _ HT.out).mono ?_
  rintro e w1 ⟨rfl, hb⟩
  have B1 : Hid (Below w.heap.size w w1) := hb
  clear hb
  go_wp2_with fail
  refine (some_x _ _ _ x1 w1 (H1.out.later B1.out)).mono ?_
  rintro e w2 ⟨q1, k1, d1, X, rfl, s1, hb, hk1⟩
  have B2 : Hid (Below w.heap.size w w2) := below_then B1.out hb
  have S1 : Hid (SB w2 q1 k1 d1 X) := s1
  clear hb s1
  go_wp2_with fail
  refine (some_x _ _ _ x2 w2 (H2.out.later B2.out)).mono ?_
  rintro e w3 ⟨q2, k2, d2, Y, rfl, s2, hb, hk2⟩
  have B3 : Hid (Below w.heap.size w w3) := below_then B2.out hb
  have S2 : Hid (SB w3 q2 k2 d2 Y) := s2
  have S1' : Hid (SB w3 q1 k1 d1 X) := S1.out.later hb
  clear hb s2 S1
  go_wp2_with fail
  refine (some_x _ _ _ x3 w3 (H3.out.later B3.out)).mono ?_
  rintro e w4 ⟨q3, k3, d3, Z, rfl, s3, hb, hk3⟩
  have B4 : Hid (Below w.heap.size w w4) := below_then B3.out hb
  have S3 : Hid (SB w4 q3 k3 d3 Z) := s3
  have S2' : Hid (SB w4 q2 k2 d2 Y) := S2.out.later hb
  have S1 : Hid (SB w4 q1 k1 d1 X) := S1'.out.later hb
  clear hb s3 S2 S1' H1 H2 H3
  have T4 : Hid (Tab w4) := HT.out.later B4.out
  go_wp2_with fail
  refine (of1_x w4 _ _ _ X S1.out (by omega) T4.out).mono ?_
  rintro e w5 ⟨rfl, hb⟩
  have B5 : Hid (Below w4.heap.size w4 w5) := hb
  clear hb
  go_wp2_with fail
  refine (of1_x w5 _ _ _ Y (S2'.out.later B5.out) (by omega) (T4.out.later B5.out)).mono ?_
  rintro e w6 ⟨rfl, hb⟩
  have B6 : Hid (Below w4.heap.size w4 w6) := below_then B5.out hb
  clear hb
  go_wp2_with fail
  refine (of1_x w6 _ _ _ Z (S3.out.later B6.out) (by omega) (T4.out.later B6.out)).mono ?_
  rintro e w7 ⟨rfl, hb⟩
  have B7 : Hid (Below w4.heap.size w4 w7) := below_then B6.out hb
  clear hb
  have la := crc_lt X S1.out.inn.byte
  have lb := crc_lt Y S2'.out.inn.byte
  have lc := crc_lt Z S3.out.inn.byte
  have AB : Hid (crc (X ++ Y) = hn (8 * k2) (crc X) ^^^ crc Y) := by
    show _ = _
    rw [crc_append, S2'.out.inn.len]
  have lab := xor_lt _ _ (hn_lt (8 * k2) _ la) lb
  have ABC : Hid (crc (X ++ Y ++ Z) = hn (8 * k3) (hn (8 * k2) (crc X) ^^^ crc Y) ^^^ crc Z) := by
    show _ = _
    rw [crc_append, S3.out.inn.len, AB.out]
  generalize crc X = a at *
  generalize crc Y = b at *
  generalize crc Z = c at *
  go_wp2_with fail
  refine (join_x w7 a b k2 la lb (by omega)).mono ?_
  rintro e w' ⟨rfl, rfl⟩
  go_wp2_with fail
  refine (join_x w7 _ c k3 lab lc (by omega)).mono ?_
  rintro e w' ⟨rfl, rfl⟩
  go_wp2_with fail
  refine (of2_x w7 _ _ _ _ _ _ X Y (S1.out.later B7.out) (S2'.out.later B7.out) (by omega) (by omega) (T4.out.later B7.out)).mono ?_
  rintro e w8 ⟨rfl, hb⟩
  have B8 : Hid (Below w4.heap.size w4 w8) := below_then B7.out hb
  clear hb
  rw [AB.out]
  go_wp2_with fail
  refine (of3_x w8 _ _ _ _ _ _ _ _ _ X Y Z (S1.out.later B8.out) (S2'.out.later B8.out) (S3.out.later B8.out) (by omega) (by omega) (by omega) (T4.out.later B8.out)).mono ?_
  rintro e w9 ⟨rfl, hb⟩
  have B9 : Hid (Below w4.heap.size w4 w9) := below_then B8.out hb
  clear hb
  rw [ABC.out]
  have BW : Hid (Below w.heap.size w w9) := below_then B4.out B9.out
  clear AB ABC S1 S2' S3 T4 B1 B2 B3 B4 B5 B6 B7 B8 B9
  by_cases cn : n < wrap64 (-wrap64 (n + 1)) <;> by_cases cm : m < wrap64 (-wrap64 (m + 1))
  · obtain ⟨N, hNb, hN⟩ := halfA n hn1 hn2 (by omega)
    obtain ⟨M, hMb, hM⟩ := halfA m hm1 hm2 (by omega)
    have HN : Hid (_ = (N : Int) ∧ _ = (N : Int) ∧ _ = (N : Int)) := hN
    have HM : Hid (_ = (M : Int) ∧ _ = (M : Int) ∧ _ = (M : Int)) := hM
    clear hN hM
    go_wp2_with fail
    have hN := HN.out
    have hM := HM.out
    clear HN HM
    first | rw [hN.1] | rw [hN.2.1] | rw [hN.2.2]
    first | rw [hM.1] | rw [hM.2.1] | rw [hM.2.2]
    clear hN hM
    have lp := xor_lt _ _ (hn_lt (8 * N) _ la) lb
    have lq := xor_lt _ _ (hn_lt (8 * M) _ lb) lc
    have EQ : Hid (hn (8 * M) (hn (8 * N) a ^^^ b) ^^^ c = hn (8 * (N + M)) a ^^^ (hn (8 * M) b ^^^ c)) := by
      show _ = _
      rw [hn_xor, ← hn_add, Nat.xor_assoc, show 8 * N + 8 * M = 8 * (N + M) by omega]
    refine (join_x w9 a b N la lb (by omega)).mono ?_
    rintro e w' ⟨rfl, rfl⟩
    go_wp2_with fail
    refine (join_x w9 _ c M lp lc (by omega)).mono ?_
    rintro e w' ⟨rfl, rfl⟩
    go_wp2_with fail
    refine (join_x w9 b c M lb lc (by omega)).mono ?_
    rintro e w' ⟨rfl, rfl⟩
    go_wp2_with fail
    refine (join_x w9 a _ (N + M) la lq (by omega)).mono ?_
    rintro e w' ⟨rfl, rfl⟩
    rw [EQ.out]
    go_wp2_with fail
    go_ret
    exact ⟨by simp, BW.out⟩
  · obtain ⟨N, hNb, hN⟩ := halfA n hn1 hn2 (by omega)
    obtain ⟨M, hMb, hM⟩ := halfB m hm1 hm2 (by omega)
    have HN : Hid (_ = (N : Int) ∧ _ = (N : Int) ∧ _ = (N : Int)) := hN
    have HM : Hid (_ = (M : Int) ∧ _ = (M : Int) ∧ _ = (M : Int)) := hM
    clear hN hM
    go_wp2_with fail
    have hN := HN.out
    have hM := HM.out
    clear HN HM
    first | rw [hN.1] | rw [hN.2.1] | rw [hN.2.2]
    first | rw [hM.1] | rw [hM.2.1] | rw [hM.2.2]
    clear hN hM
    have lp := xor_lt _ _ (hn_lt (8 * N) _ la) lb
    have lq := xor_lt _ _ (hn_lt (8 * M) _ lb) lc
    have EQ : Hid (hn (8 * M) (hn (8 * N) a ^^^ b) ^^^ c = hn (8 * (N + M)) a ^^^ (hn (8 * M) b ^^^ c)) := by
      show _ = _
      rw [hn_xor, ← hn_add, Nat.xor_assoc, show 8 * N + 8 * M = 8 * (N + M) by omega]
    refine (join_x w9 a b N la lb (by omega)).mono ?_
    rintro e w' ⟨rfl, rfl⟩
    go_wp2_with fail
    refine (join_x w9 _ c M lp lc (by omega)).mono ?_
    rintro e w' ⟨rfl, rfl⟩
    go_wp2_with fail
    refine (join_x w9 b c M lb lc (by omega)).mono ?_
    rintro e w' ⟨rfl, rfl⟩
    go_wp2_with fail
    refine (join_x w9 a _ (N + M) la lq (by omega)).mono ?_
    rintro e w' ⟨rfl, rfl⟩
    rw [EQ.out]
    go_wp2_with fail
    go_ret
    exact ⟨by simp, BW.out⟩
  · obtain ⟨N, hNb, hN⟩ := halfB n hn1 hn2 (by omega)
    obtain ⟨M, hMb, hM⟩ := halfA m hm1 hm2 (by omega)
    have HN : Hid (_ = (N : Int) ∧ _ = (N : Int) ∧ _ = (N : Int)) := hN
    have HM : Hid (_ = (M : Int) ∧ _ = (M : Int) ∧ _ = (M : Int)) := hM
    clear hN hM
    go_wp2_with fail
    have hN := HN.out
    have hM := HM.out
    clear HN HM
    first | rw [hN.1] | rw [hN.2.1] | rw [hN.2.2]
    first | rw [hM.1] | rw [hM.2.1] | rw [hM.2.2]
    clear hN hM
    have lp := xor_lt _ _ (hn_lt (8 * N) _ la) lb
    have lq := xor_lt _ _ (hn_lt (8 * M) _ lb) lc
    have EQ : Hid (hn (8 * M) (hn (8 * N) a ^^^ b) ^^^ c = hn (8 * (N + M)) a ^^^ (hn (8 * M) b ^^^ c)) := by
      show _ = _
      rw [hn_xor, ← hn_add, Nat.xor_assoc, show 8 * N + 8 * M = 8 * (N + M) by omega]
    refine (join_x w9 a b N la lb (by omega)).mono ?_
    rintro e w' ⟨rfl, rfl⟩
    go_wp2_with fail
    refine (join_x w9 _ c M lp lc (by omega)).mono ?_
    rintro e w' ⟨rfl, rfl⟩
    go_wp2_with fail
    refine (join_x w9 b c M lb lc (by omega)).mono ?_
    rintro e w' ⟨rfl, rfl⟩
    go_wp2_with fail
    refine (join_x w9 a _ (N + M) la lq (by omega)).mono ?_
    rintro e w' ⟨rfl, rfl⟩
    rw [EQ.out]
    go_wp2_with fail
    go_ret
    exact ⟨by simp, BW.out⟩
  · obtain ⟨N, hNb, hN⟩ := halfB n hn1 hn2 (by omega)
    obtain ⟨M, hMb, hM⟩ := halfB m hm1 hm2 (by omega)
    have HN : Hid (_ = (N : Int) ∧ _ = (N : Int) ∧ _ = (N : Int)) := hN
    have HM : Hid (_ = (M : Int) ∧ _ = (M : Int) ∧ _ = (M : Int)) := hM
    clear hN hM
    go_wp2_with fail
    have hN := HN.out
    have hM := HM.out
    clear HN HM
    first | rw [hN.1] | rw [hN.2.1] | rw [hN.2.2]
    first | rw [hM.1] | rw [hM.2.1] | rw [hM.2.2]
    clear hN hM
    have lp := xor_lt _ _ (hn_lt (8 * N) _ la) lb
    have lq := xor_lt _ _ (hn_lt (8 * M) _ lb) lc
    have EQ : Hid (hn (8 * M) (hn (8 * N) a ^^^ b) ^^^ c = hn (8 * (N + M)) a ^^^ (hn (8 * M) b ^^^ c)) := by
      show _ = _
      rw [hn_xor, ← hn_add, Nat.xor_assoc, show 8 * N + 8 * M = 8 * (N + M) by omega]
    refine (join_x w9 a b N la lb (by omega)).mono ?_
    rintro e w' ⟨rfl, rfl⟩
    go_wp2_with fail
    refine (join_x w9 _ c M lp lc (by omega)).mono ?_
    rintro e w' ⟨rfl, rfl⟩
    go_wp2_with fail
    refine (join_x w9 b c M lb lc (by omega)).mono ?_
    rintro e w' ⟨rfl, rfl⟩
    go_wp2_with fail
    refine (join_x w9 a _ (N + M) la lq (by omega)).mono ?_
    rintro e w' ⟨rfl, rfl⟩
    rw [EQ.out]
    go_wp2_with fail
    go_ret
    exact ⟨by simp, BW.out⟩
end Go.Proofs.YtaencchobpgogaaDoor
