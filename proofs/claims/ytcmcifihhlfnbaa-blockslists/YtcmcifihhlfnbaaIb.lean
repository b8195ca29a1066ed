/-
  Layer 5: the statement BlocksLists: its walk.
-/
import Derived.Test.YtcmcifihhlfnbaaHb
namespace Go.Proofs.Ytcmcifihhlfnbaa
open Go.RowKit

set_option maxRecDepth 100000 in
set_option maxHeartbeats 8000000 in
theorem blocksLists_is (p q : Option Addr) (n c m d : Nat) (xs ys : List Int) (N : Int) (w0 : World) (h : IIn w0 p n xs) (k : IIn w0 q m ys) (hnc : n ≤ c) (hmd : m ≤ d) (hp : p = none → c = 0) (hq : q = none → d = 0) (hn : n + 80 ≤ 17592186044416) (hm : m + 80 ≤ 17592186044416) :
    Calls Try.prog 6 #[.slice p n c, .slice q m d, .int .i64 N] w0 fun e w' => e = .returned (.bool true) ∧ Below w0.heap.size w0 w' := by
  obtain ⟨Z, hZ⟩ : ∃ Z, bothS xs ys = Z := ⟨_, rfl⟩
  obtain ⟨T, hT⟩ : ∃ T, turnS xs = T := ⟨_, rfl⟩
  obtain ⟨Z2, hZ2⟩ : ∃ Z, bothS T ys = Z := ⟨_, rfl⟩
  obtain ⟨Z3, hZ3⟩ : ∃ Z, bothS ys [1, 2, 3] = Z := ⟨_, rfl⟩
  obtain ⟨P, OK, hP⟩ : ∃ P OK, nextS xs N = (P, OK) := ⟨_, _, rfl⟩
  obtain ⟨P2, OK2, hP2⟩ : ∃ P OK, nextS T N = (P, OK) := ⟨_, _, rfl⟩
  obtain ⟨I, hI⟩ : ∃ I, isS xs = I := ⟨_, rfl⟩
  obtain ⟨I2, hI2⟩ : ∃ I, isS T = I := ⟨_, rfl⟩
  obtain ⟨H, hH⟩ : ∃ H, hasS xs N = H := ⟨_, rfl⟩
  obtain ⟨H2, hH2⟩ : ∃ H, hasS T N = H := ⟨_, rfl⟩
  have lZ : Z.length + 80 ≤ 17592186044416 := by have := bothS_length xs ys; rw [hZ, h.len] at this; omega
  have lZ2 : Z2.length + 80 ≤ 17592186044416 := by have := bothS_length T ys; rw [hZ2, ← hT, turnS_length, h.len] at this; omega
  have lZ3 : Z3.length + 80 ≤ 17592186044416 := by have := bothS_length ys [1, 2, 3]; rw [hZ3, k.len] at this; omega
  have QZ : Hid (bothS xs ys = Z) := hZ
  have QT : Hid (turnS xs = T) := hT
  have QZ2 : Hid (bothS T ys = Z2) := hZ2
  have QZ3 : Hid (bothS ys [1, 2, 3] = Z3) := hZ3
  have QP : Hid (nextS xs N = (P, OK)) := hP
  have QP2 : Hid (nextS T N = (P2, OK2)) := hP2
  have QI : Hid (isS xs = I) := hI
  have QI2 : Hid (isS T = I2) := hI2
  have QH : Hid (hasS xs N = H) := hH
  have QH2 : Hid (hasS T N = H2) := hH2
  have Qp : Hid (p = none → c = 0) := hp
  have Qq : Hid (q = none → d = 0) := hq
  clear hZ hT hZ2 hZ3 hP hP2 hI hI2 hH hH2 hp hq
  go_enter Try.func6, Try.ntmps6
  go_wp2_with fail
  refine (awake_is w0).mono ?_
  rintro e w1 ⟨rfl, b0_1⟩
  go_wp2_with fail
  refine (rboth_x p q n c m d xs ys Z QZ.out w1 (h.later b0_1) (k.later b0_1) hn hm).mono ?_
  rintro e w2 ⟨q2, d2, rfl, r2⟩
  have b1_2 := r2.below
  go_wp2_with fail
  have b0_2 := below_then b0_1 b1_2
  refine (rnext_x p n c xs N P OK QP.out w2 (h.later b0_2)).mono ?_
  rintro e w3 ⟨rfl, b2_3⟩
  go_wp2_with fail
  have b0_3 := below_then b0_2 b2_3
  refine (roomy_is p n c xs w3 (h.later b0_3) Qp.out hnc hn).mono ?_
  rintro e w4 ⟨g1, cap1, rfl, x4, b3_4⟩
  have z1 := x4.at
  go_wp2_with fail
  have b0_4 := below_then b0_3 b3_4
  refine (roomy_is q m d ys w4 (k.later b0_4) Qq.out hmd hm).mono ?_
  rintro e w5 ⟨g2, cap2, rfl, y5, b4_5⟩
  have z2 := y5.at
  go_wp2_with fail
  refine (both_x _ _ n cap1 m cap2 xs ys Z QZ.out w5 (x4.later b4_5).read y5.read hn hm).mono ?_
  rintro e w6 ⟨ql, dl, rfl, ml⟩
  have b5_6 := ml.below
  go_wp2_with fail
  have b4_6 := below_then b4_5 b5_6
  refine (next_x _ n cap1 xs N P OK QP.out w6 (x4.later b4_6).read).mono ?_
  rintro e w7 ⟨rfl, b6_7⟩
  go_wp2_with fail
  have b2_4 := below_then b2_3 b3_4
  have b2_5 := below_then b2_4 b4_5
  have b2_6 := below_then b2_5 b5_6
  have b2_7 := below_then b2_6 b6_7
  refine (same_eq ql q2 _ dl _ d2 Z w7 (ml.read.later b6_7) (r2.read.later b2_7) lZ).mono ?_
  rintro e w8 ⟨rfl, b7_8⟩
  go_wp2_with fail
  have b4_7 := below_then b4_6 b6_7
  have b4_8 := below_then b4_7 b7_8
  refine (is_x _ n cap1 xs I QI.out w8 (x4.later b4_8).read x4.room hn).mono ?_
  rintro e w9 ⟨rfl, b8_9⟩
  go_wp2_with fail
  have b0_5 := below_then b0_4 b4_5
  have b0_6 := below_then b0_5 b5_6
  have b0_7 := below_then b0_6 b6_7
  have b0_8 := below_then b0_7 b7_8
  have b0_9 := below_then b0_8 b8_9
  refine (ris_x p n c xs I QI.out w9 (h.later b0_9) hn).mono ?_
  rintro e w10 ⟨rfl, b9_10⟩
  go_wp2_with fail
  have b4_9 := below_then b4_8 b8_9
  have b4_10 := below_then b4_9 b9_10
  refine (has_x _ n cap1 xs N H QH.out w10 (x4.later b4_10).read hn).mono ?_
  rintro e w11 ⟨rfl, b10_11⟩
  go_wp2_with fail
  have b0_10 := below_then b0_9 b9_10
  have b0_11 := below_then b0_10 b10_11
  refine (rhas_x p n c xs N H QH.out w11 (h.later b0_11) hn).mono ?_
  rintro e w12 ⟨rfl, b11_12⟩
  go_wp2_with fail
  have b4_11 := below_then b4_10 b10_11
  have b4_12 := below_then b4_11 b11_12
  have b5_7 := below_then b5_6 b6_7
  have b5_8 := below_then b5_7 b7_8
  have b5_9 := below_then b5_8 b8_9
  have b5_10 := below_then b5_9 b9_10
  have b5_11 := below_then b5_10 b10_11
  have b5_12 := below_then b5_11 b11_12
  refine (both_x _ _ n cap1 m cap2 xs ys Z QZ.out w12 (x4.later b4_12).read (y5.later b5_12).read hn hm).mono ?_
  rintro e w13 ⟨qm, dm, rfl, mm⟩
  have b12_13 := mm.below
  go_wp2_with fail
  have b2_8 := below_then b2_7 b7_8
  have b2_9 := below_then b2_8 b8_9
  have b2_10 := below_then b2_9 b9_10
  have b2_11 := below_then b2_10 b10_11
  have b2_12 := below_then b2_11 b11_12
  have b2_13 := below_then b2_12 b12_13
  refine (same_eq qm q2 _ dm _ d2 Z w13 mm.read (r2.read.later b2_13) lZ).mono ?_
  rintro e w14 ⟨rfl, b13_14⟩
  go_wp2_with fail
  have b5_13 := below_then b5_12 b12_13
  have b5_14 := below_then b5_13 b13_14
  refine (both_lit_x _ m cap2 ys [1, 2, 3] Z3 3 rfl QZ3.out w14 (y5.later b5_14).read hm (by decide)).mono ?_
  rintro e w15 ⟨qk, dk, rfl, mk⟩
  have b14_15 := mk.below
  go_wp2_with fail
  have b4_13 := below_then b4_12 b12_13
  have b4_14 := below_then b4_13 b13_14
  have b4_15 := below_then b4_14 b14_15
  have b5_15 := below_then b5_14 b14_15
  refine (both_x _ _ n cap1 m cap2 xs ys Z QZ.out w15 (x4.later b4_15).read (y5.later b5_15).read hn hm).mono ?_
  rintro e w16 ⟨qo, d_o, rfl, mo⟩
  have b15_16 := mo.below
  go_wp2_with fail
  have b2_14 := below_then b2_13 b13_14
  have b2_15 := below_then b2_14 b14_15
  have b2_16 := below_then b2_15 b15_16
  refine (same_eq qo q2 _ d_o _ d2 Z w16 mo.read (r2.read.later b2_16) lZ).mono ?_
  rintro e w17 ⟨rfl, b16_17⟩
  go_wp2_with fail
  have b6_8 := below_then b6_7 b7_8
  have b6_9 := below_then b6_8 b8_9
  have b6_10 := below_then b6_9 b9_10
  have b6_11 := below_then b6_10 b10_11
  have b6_12 := below_then b6_11 b11_12
  have b6_13 := below_then b6_12 b12_13
  have b6_14 := below_then b6_13 b13_14
  have b6_15 := below_then b6_14 b14_15
  have b6_16 := below_then b6_15 b15_16
  have b6_17 := below_then b6_16 b16_17
  have b2_17 := below_then b2_16 b16_17
  refine (same_eq ql q2 _ dl _ d2 Z w17 (ml.read.later b6_17) (r2.read.later b2_17) lZ).mono ?_
  rintro e w18 ⟨rfl, b17_18⟩
  go_wp2_with fail
  have b13_15 := below_then b13_14 b14_15
  have b13_16 := below_then b13_15 b15_16
  have b13_17 := below_then b13_16 b16_17
  have b13_18 := below_then b13_17 b17_18
  have b2_18 := below_then b2_17 b17_18
  refine (same_eq qm q2 _ dm _ d2 Z w18 (mm.read.later b13_18) (r2.read.later b2_18) lZ).mono ?_
  rintro e w19 ⟨rfl, b18_19⟩
  go_wp2_with fail
  have b0_12 := below_then b0_11 b11_12
  have b0_13 := below_then b0_12 b12_13
  have b0_14 := below_then b0_13 b13_14
  have b0_15 := below_then b0_14 b14_15
  have b0_16 := below_then b0_15 b15_16
  have b0_17 := below_then b0_16 b16_17
  have b0_18 := below_then b0_17 b17_18
  have b0_19 := below_then b0_18 b18_19
  have b4_16 := below_then b4_15 b15_16
  have b4_17 := below_then b4_16 b16_17
  have b4_18 := below_then b4_17 b17_18
  have b4_19 := below_then b4_18 b18_19
  refine (held_is _ g1 n cap1 c p xs w19 (x4.later b4_19) hn (h.later b0_19)).mono ?_
  rintro e w20 ⟨rfl, b19_20⟩
  go_wp2_with fail
  have b0_20 := below_then b0_19 b19_20
  have b5_16 := below_then b5_15 b15_16
  have b5_17 := below_then b5_16 b16_17
  have b5_18 := below_then b5_17 b17_18
  have b5_19 := below_then b5_18 b18_19
  have b5_20 := below_then b5_19 b19_20
  refine (held_is _ g2 m cap2 d q ys w20 (y5.later b5_20) hm (k.later b0_20)).mono ?_
  rintro e w21 ⟨rfl, b20_21⟩
  go_wp2_with fail
  have b4_20 := below_then b4_19 b19_20
  have b4_21 := below_then b4_20 b20_21
  have b0_21 := below_then b0_20 b20_21
  have b5_21 := below_then b5_20 b20_21
  have b6_18 := below_then b6_17 b17_18
  have b6_19 := below_then b6_18 b18_19
  have b6_20 := below_then b6_19 b19_20
  have b6_21 := below_then b6_20 b20_21
  have b13_19 := below_then b13_18 b18_19
  have b13_20 := below_then b13_19 b19_20
  have b13_21 := below_then b13_20 b20_21
  have b15_17 := below_then b15_16 b16_17
  have b15_18 := below_then b15_17 b17_18
  have b15_19 := below_then b15_18 b18_19
  have b15_20 := below_then b15_19 b19_20
  have b15_21 := below_then b15_20 b20_21
  have b16_18 := below_then b16_17 b17_18
  have b16_19 := below_then b16_18 b18_19
  have b16_20 := below_then b16_19 b19_20
  have b16_21 := below_then b16_20 b20_21
  refine (turn_x _ g1 n cap1 xs T QT.out w21 (x4.later b4_21) hn).mono ?_
  rintro e w22 ⟨rfl, xt, gt⟩
  have s0 := b0_1.size
  have s1 := b1_2.size
  have s2 := b2_3.size
  have s3 := b3_4.size
  have s4 := b4_5.size
  have s5 := b5_6.size
  have s6 := b6_7.size
  have s7 := b7_8.size
  have s8 := b8_9.size
  have s9 := b9_10.size
  have s10 := b10_11.size
  have s11 := b11_12.size
  have s12 := b12_13.size
  have s13 := b13_14.size
  have s14 := b14_15.size
  have s15 := b15_16.size
  have s16 := b16_17.size
  have s17 := b17_18.size
  have s18 := b18_19.size
  have s19 := b19_20.size
  have s20 := b20_21.size
  have b0_22 : Below w0.heap.size w0 w22 := b0_21.grown gt b0_21.size (by intro k hk; simp only [Option.some.injEq] at hk; omega)
  have yt := (y5.later b5_21).turn gt (show g1 ≠ g2 by omega)
  have kt := k.later b0_22
  have seg_ml := ((ml.seg lZ).later b6_21).turn gt (by omega)
  have seg_mm := ((mm.seg lZ).later b13_21).turn gt (by omega)
  have seg_mk := ((mk.seg lZ3).later b15_21).turn gt (by omega)
  have seg_mo := ((mo.seg lZ).later b16_21).turn gt (by omega)
  go_wp2_with fail
  refine (own_is _ n cap1 T w22 xt.read (fun e => by cases e) xt.room hn).mono ?_
  rintro e w23 ⟨qu, du, rfl, mu⟩
  have b22_23 := mu.below
  go_wp2_with fail
  refine (rboth_x _ q n du m d T ys Z2 QZ2.out w23 mu.read (kt.later b22_23) hn hm).mono ?_
  rintro e w24 ⟨qv, dv, rfl, mv⟩
  have b23_24 := mv.below
  go_wp2_with fail
  have b22_24 := below_then b22_23 b23_24
  refine (own_is _ n cap1 T w24 (xt.later b22_24).read (fun e => by cases e) xt.room hn).mono ?_
  rintro e w25 ⟨qa, da, rfl, ma⟩
  have b24_25 := ma.below
  go_wp2_with fail
  refine (rnext_x _ n da T N P2 OK2 QP2.out w25 ma.read).mono ?_
  rintro e w26 ⟨rfl, b25_26⟩
  go_wp2_with fail
  have b22_25 := below_then b22_24 b24_25
  have b22_26 := below_then b22_25 b25_26
  refine (both_x _ _ n cap1 m cap2 T ys Z2 QZ2.out w26 (xt.later b22_26).read (yt.later b22_26).read hn hm).mono ?_
  rintro e w27 ⟨qz, dz, rfl, mz⟩
  have b26_27 := mz.below
  go_wp2_with fail
  have b22_27 := below_then b22_26 b26_27
  refine (next_x _ n cap1 T N P2 OK2 QP2.out w27 (xt.later b22_27).read).mono ?_
  rintro e w28 ⟨rfl, b27_28⟩
  go_wp2_with fail
  have b24_26 := below_then b24_25 b25_26
  have b24_27 := below_then b24_26 b26_27
  have b24_28 := below_then b24_27 b27_28
  refine (same_eq qz qv _ dz _ dv Z2 w28 (mz.read.later b27_28) (mv.read.later b24_28) lZ2).mono ?_
  rintro e w29 ⟨rfl, b28_29⟩
  go_wp2_with fail
  have b22_28 := below_then b22_27 b27_28
  have b22_29 := below_then b22_28 b28_29
  refine (is_x _ n cap1 T I2 QI2.out w29 (xt.later b22_29).read xt.room hn).mono ?_
  rintro e w30 ⟨rfl, b29_30⟩
  go_wp2_with fail
  have b22_30 := below_then b22_29 b29_30
  refine (ris_x _ n cap1 T I2 QI2.out w30 (xt.later b22_30).read hn).mono ?_
  rintro e w31 ⟨rfl, b30_31⟩
  go_wp2_with fail
  have b22_31 := below_then b22_30 b30_31
  refine (has_x _ n cap1 T N H2 QH2.out w31 (xt.later b22_31).read hn).mono ?_
  rintro e w32 ⟨rfl, b31_32⟩
  go_wp2_with fail
  have b22_32 := below_then b22_31 b31_32
  refine (rhas_x _ n cap1 T N H2 QH2.out w32 (xt.later b22_32).read hn).mono ?_
  rintro e w33 ⟨rfl, b32_33⟩
  have b22_33 := below_then b22_32 b32_33
  have b27_29 := below_then b27_28 b28_29
  have b27_30 := below_then b27_29 b29_30
  have b27_31 := below_then b27_30 b30_31
  have b27_32 := below_then b27_31 b31_32
  have b27_33 := below_then b27_32 b32_33
  have s22 := b22_23.size
  have s23 := b23_24.size
  have s24 := b24_25.size
  have s25 := b25_26.size
  have s26 := b26_27.size
  have s27 := b27_28.size
  have s28 := b28_29.size
  have s29 := b29_30.size
  have s30 := b30_31.size
  have s31 := b31_32.size
  have s32 := b32_33.size
  have s21 := gt.size
  have HC : Hid (Chain w33 w5.heap.size [(ql, Z.length, dl), (qm, Z.length, dm), (qk, Z3.length, dk), (qo, Z.length, d_o), (qz, Z2.length, dz)]) := by
    refine ⟨w12.heap.size, ?_, w14.heap.size, ?_, w15.heap.size, ?_, w26.heap.size, ?_, w27.heap.size, (mz.seg lZ2).later b27_33, trivial⟩
    · exact (seg_ml.later b22_33).wider (by omega)
    · exact (seg_mm.later b22_33).wider (by omega)
    · exact (seg_mk.later b22_33).wider (by omega)
    · exact (seg_mo.later b22_33).wider (by omega)
  have HT : Hid (Below w0.heap.size w0 w33) := b0_22.trans (b22_33.mono b0_22.size)
  have HQ : Hid (w5.heap.size ≤ w33.heap.size) := by show _ ≤ _; omega
  have HQ0 : Hid (w0.heap.size ≤ w5.heap.size) := by show _ ≤ _; omega
  clear b0_1 b0_10 b0_11 b0_12 b0_13 b0_14 b0_15 b0_16 b0_17 b0_18 b0_19 b0_2 b0_20 b0_21 b0_22 b0_3 b0_4 b0_5 b0_6 b0_7 b0_8 b0_9 b10_11 b11_12 b12_13 b13_14 b13_15 b13_16 b13_17 b13_18 b13_19 b13_20 b13_21 b14_15 b15_16 b15_17 b15_18 b15_19 b15_20 b15_21 b16_17 b16_18 b16_19 b16_20 b16_21 b17_18 b18_19 b19_20 b1_2 b20_21 b22_23 b22_24 b22_25 b22_26 b22_27 b22_28 b22_29 b22_30 b22_31 b22_32 b22_33 b23_24 b24_25 b24_26 b24_27 b24_28 b25_26 b26_27 b27_28 b27_29 b27_30 b27_31 b27_32 b27_33 b28_29 b29_30 b2_10 b2_11 b2_12 b2_13 b2_14 b2_15 b2_16 b2_17 b2_18 b2_3 b2_4 b2_5 b2_6 b2_7 b2_8 b2_9 b30_31 b31_32 b32_33 b3_4 b4_10 b4_11 b4_12 b4_13 b4_14 b4_15 b4_16 b4_17 b4_18 b4_19 b4_20 b4_21 b4_5 b4_6 b4_7 b4_8 b4_9 b5_10 b5_11 b5_12 b5_13 b5_14 b5_15 b5_16 b5_17 b5_18 b5_19 b5_20 b5_21 b5_6 b5_7 b5_8 b5_9 b6_10 b6_11 b6_12 b6_13 b6_14 b6_15 b6_16 b6_17 b6_18 b6_19 b6_20 b6_21 b6_7 b6_8 b6_9 b7_8 b8_9 b9_10 s0 s1 s2 s3 s4 s5 s6 s7 s8 s9 s10 s11 s12 s13 s14 s15 s16 s17 s18 s19 s20 s21 s22 s23 s24 s25 s26 s27 s28 s29 s30 s31 s32 z1 z2 seg_ml seg_mm seg_mk seg_mo kt yt gt xt x4 y5 ml mm mk mo mz mu mv ma r2 h k
  go_wp2_with fail
  refine (apart5 w33 w5.heap.size ql qm qk qo qz _ _ _ _ _ dl dm dk d_o dz HQ.out HC.out).mono ?_
  rintro e w34 ⟨rfl, hb⟩
  have HF : Hid (Below w0.heap.size w0 w34) := HT.out.trans (hb.mono HQ0.out)
  clear hb
  go_wp2
  go_ret
  exact ⟨rfl, HF.out⟩

end Go.Proofs.Ytcmcifihhlfnbaa
