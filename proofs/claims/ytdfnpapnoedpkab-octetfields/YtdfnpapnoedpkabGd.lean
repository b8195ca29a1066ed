/-
  The statement OctetFields: its walk.
-/
import Derived.Test.YtdfnpapnoedpkabGc
namespace Go.Proofs.Ytdfnpapnoedpkab
open Go.RowKit

set_option maxRecDepth 100000 in
set_option maxHeartbeats 8000000 in
theorem octetFields_any (p : Option Addr) (n c : Nat) (xs : List Int) (q : Option Addr) (m d : Nat) (ss : List Int) (w0 : World) (h : BIn w0 p n xs) (hnc : n ≤ c) (hp : p = none → c = 0) (hbig : n + 80 ≤ 140737488355328)
    (hi : IIn w0 .i64 q m ss) (hmd : m ≤ d) (hq : q = none → d = 0) (hbig2 : m + 80 ≤ 17592186044416) :
    Calls Try.prog 3 #[.slice p n c, .slice q m d] w0 fun e w' => e = .returned (.bool true) ∧ Below w0.heap.size w0 w' := by
  have hf := fieldsS_len xs ss h.byte
  have hfb : Bytes (xs.map flip) := fun x hx => by
    obtain ⟨y, hy, rfl⟩ := List.mem_map.1 hx
    exact flip_byte y (h.byte y hy)
  have hf2 := fieldsS_len (xs.map flip) ss hfb
  obtain ⟨N, X, er, hX⟩ : ∃ N X er, fieldsS xs ss = (N, X, er) := ⟨_, _, _, rfl⟩
  obtain ⟨M, Y, er2, hY⟩ : ∃ N X er, fieldsS (xs.map flip) ss = (N, X, er) := ⟨_, _, _, rfl⟩
  rw [hX, hi.len] at hf
  rw [hY, hi.len] at hf2
  have hN : N.length + 80 ≤ 17592186044416 := Nat.le_trans (Nat.add_le_add_right hf.1 80) hbig2
  have hM : M.length + 80 ≤ 17592186044416 := Nat.le_trans (Nat.add_le_add_right hf2.1 80) hbig2
  have HX : Hid (fieldsS xs ss = (N, X, er)) := hX
  have HY : Hid (fieldsS (xs.map flip) ss = (M, Y, er2)) := hY
  have HP : Hid (p = none → c = 0) := hp
  have HQ : Hid (q = none → d = 0) := hq
  clear hX hY hp hq hf hf2 hfb
  go_enter Try.func3, Try.ntmps3
  go_wp2_with fail
  refine (awake_any _).mono ?_
  rintro e w1 ⟨rfl, b0_1⟩
  go_wp2_with fail
  refine (rfields_x p q n c m d xs ss N X er HX.out _ (h.later b0_1) (hi.later b0_1) hnc HP.out hbig hbig2).mono ?_
  rintro e w2 ⟨p2, c2, q2, d2, rfl, i2, r2, b1_2⟩
  go_wp2_with fail
  have b0_2 := below_then b0_1 b1_2
  refine (roomy_x p n c xs _ (h.later b0_2) HP.out hnc hbig).mono ?_
  rintro e w3 ⟨g, cap, rfl, r3, b2_3⟩
  have hcap : n ≤ cap := by have := r3.cap2; omega
  go_wp2_with fail
  have b0_3 := below_then b0_2 b2_3
  refine (roomySizes_x q m d ss _ (hi.later b0_3) HQ.out hmd hbig2).mono ?_
  rintro e w4 ⟨gs, caps, rfl, s4, b3_4⟩
  go_wp2_with fail
  refine (fields_x _ _ n cap m caps xs ss N X er HX.out _ (r3.later b3_4).read s4.read hcap (fun e => by cases e) hbig hbig2).mono ?_
  rintro e w5 ⟨p5, c5, q5, d5, rfl, n5, m5⟩
  have b4_5 := m5.below
  go_wp2_with fail
  have b2_4 := below_then b2_3 b3_4
  have b2_5 := below_then b2_4 b4_5
  refine (same_x _ _ _ c5 c2 N _ n5.read (i2.later b2_5) hN).mono ?_
  rintro e w6 ⟨rfl, b5_6⟩
  have t1 := (m5.read.later b5_6).str d5
  have b2_6 := below_then b2_5 b5_6
  have t2 := (r2.later b2_6).str d2
  go_wp2_with fail
  clear t1 t2
  have b3_5 := below_then b3_4 b4_5
  have b3_6 := below_then b3_5 b5_6
  have b4_6 := below_then b4_5 b5_6
  refine (fields_x _ _ n cap m caps xs ss N X er HX.out _ (r3.later b3_6).read (s4.later b4_6).read hcap (fun e => by cases e) hbig hbig2).mono ?_
  rintro e w7 ⟨p7, c7, q7, d7, rfl, n7, m7⟩
  have b6_7 := m7.below
  go_wp2_with fail
  have b2_7 := below_then b2_6 b6_7
  refine (same_x _ _ _ c7 c2 N _ n7.read (i2.later b2_7) hN).mono ?_
  rintro e w8 ⟨rfl, b7_8⟩
  have t1 := (m7.read.later b7_8).str d7
  have b2_8 := below_then b2_7 b7_8
  have t2 := (r2.later b2_8).str d2
  go_wp2_with fail
  clear t1 t2
  refine (fields_lit _).mono ?_
  rintro e w9 ⟨p9, c9, q9, d9, rfl, n9, m9⟩
  have b8_9 := m9.below
  go_wp2_with fail
  have b3_7 := below_then b3_6 b6_7
  have b3_8 := below_then b3_7 b7_8
  have b3_9 := below_then b3_8 b8_9
  have b4_7 := below_then b4_6 b6_7
  have b4_8 := below_then b4_7 b7_8
  have b4_9 := below_then b4_8 b8_9
  refine (fields_x _ _ n cap m caps xs ss N X er HX.out _ (r3.later b3_9).read (s4.later b4_9).read hcap (fun e => by cases e) hbig hbig2).mono ?_
  rintro e w10 ⟨p10, c10, q10, d10, rfl, n10, m10⟩
  have b9_10 := m10.below
  go_wp2_with fail
  have b2_9 := below_then b2_8 b8_9
  have b2_10 := below_then b2_9 b9_10
  refine (same_x _ _ _ c10 c2 N _ n10.read (i2.later b2_10) hN).mono ?_
  rintro e w11 ⟨rfl, b10_11⟩
  have t1 := (m10.read.later b10_11).str d10
  have b2_11 := below_then b2_10 b10_11
  have t2 := (r2.later b2_11).str d2
  go_wp2_with fail
  clear t1 t2
  have b5_7 := below_then b5_6 b6_7
  have b5_8 := below_then b5_7 b7_8
  have b5_9 := below_then b5_8 b8_9
  have b5_10 := below_then b5_9 b9_10
  have b5_11 := below_then b5_10 b10_11
  refine (same_x _ _ _ c5 c2 N _ (n5.read.later b5_11) (i2.later b2_11) hN).mono ?_
  rintro e w12 ⟨rfl, b11_12⟩
  have b5_12 := below_then b5_11 b11_12
  have t1 := (m5.read.later b5_12).str d5
  have b2_12 := below_then b2_11 b11_12
  have t2 := (r2.later b2_12).str d2
  go_wp2_with fail
  clear t1 t2
  have b7_9 := below_then b7_8 b8_9
  have b7_10 := below_then b7_9 b9_10
  have b7_11 := below_then b7_10 b10_11
  have b7_12 := below_then b7_11 b11_12
  refine (same_x _ _ _ c7 c2 N _ (n7.read.later b7_12) (i2.later b2_12) hN).mono ?_
  rintro e w13 ⟨rfl, b12_13⟩
  have b7_13 := below_then b7_12 b12_13
  have t1 := (m7.read.later b7_13).str d7
  have b2_13 := below_then b2_12 b12_13
  have t2 := (r2.later b2_13).str d2
  go_wp2_with fail
  clear t1 t2
  have b3_10 := below_then b3_9 b9_10
  have b3_11 := below_then b3_10 b10_11
  have b3_12 := below_then b3_11 b11_12
  have b3_13 := below_then b3_12 b12_13
  have b0_4 := below_then b0_3 b3_4
  have b0_5 := below_then b0_4 b4_5
  have b0_6 := below_then b0_5 b5_6
  have b0_7 := below_then b0_6 b6_7
  have b0_8 := below_then b0_7 b7_8
  have b0_9 := below_then b0_8 b8_9
  have b0_10 := below_then b0_9 b9_10
  have b0_11 := below_then b0_10 b10_11
  have b0_12 := below_then b0_11 b11_12
  have b0_13 := below_then b0_12 b12_13
  refine (held_x _ g n cap c p xs _ (r3.later b3_13) hbig (h.later b0_13)).mono ?_
  rintro e w14 ⟨rfl, b13_14⟩
  go_wp2_with fail
  have b4_10 := below_then b4_9 b9_10
  have b4_11 := below_then b4_10 b10_11
  have b4_12 := below_then b4_11 b11_12
  have b4_13 := below_then b4_12 b12_13
  have b4_14 := below_then b4_13 b13_14
  have b0_14 := below_then b0_13 b13_14
  refine (heldSizes_x _ gs m caps d q ss _ (s4.later b4_14) hbig2 (hi.later b0_14)).mono ?_
  rintro e w15 ⟨rfl, b14_15⟩
  go_wp2_with fail
  have b3_14 := below_then b3_13 b13_14
  have b3_15 := below_then b3_14 b14_15
  refine (turn_x _ g n cap xs _ (r3.later b3_15) hbig).mono ?_
  rintro e w16 ⟨rfl, r16, hg16⟩
  have z23 : w2.heap.size ≤ g ∧ g < w3.heap.size := r3.at
  have zs4 : w3.heap.size ≤ gs ∧ gs < w4.heap.size := s4.at
  have zb : w0.heap.size ≤ w2.heap.size := (b0_2).size
  have b0_15 := below_then b0_14 b14_15
  have b0_16 : Below w0.heap.size w0 w16 := (b0_15).grown hg16 (b0_15).size (by intro k hk; simp only [Option.some.injEq] at hk; omega)
  have b4_15 := below_then b4_14 b14_15
  have s16 := (s4.later b4_15).turn hg16 (show g ≠ gs by omega)
  go_wp2_with fail
  refine (own_x _ n cap (xs.map flip) _ r16.read (fun e => by cases e) hcap hbig).mono ?_
  rintro e w17 ⟨p17, c17, rfl, m17⟩
  have b16_17 := m17.below
  have b0_17 : Below w0.heap.size w0 w17 := b0_16.trans (b16_17.mono b0_16.size)
  go_wp2_with fail
  refine (rfields_x p17 q n c17 m d (xs.map flip) ss M Y er2 HY.out _ m17.read (hi.later b0_17) m17.cap m17.nil hbig hbig2).mono ?_
  rintro e w18 ⟨p18, c18, q18, d18, rfl, i18, r18, b17_18⟩
  go_wp2_with fail
  have b16_18 := below_then b16_17 b17_18
  refine (fields_x _ _ n cap m caps (xs.map flip) ss M Y er2 HY.out _ (r16.later b16_18).read (s16.later b16_18).read hcap (fun e => by cases e) hbig hbig2).mono ?_
  rintro e w19 ⟨p19, c19, q19, d19, rfl, n19, m19⟩
  have b18_19 := m19.below
  go_wp2_with fail
  refine (same_x _ _ _ c19 c18 M _ n19.read (i18.later b18_19) hM).mono ?_
  rintro e w20 ⟨rfl, b19_20⟩
  have t1 := (m19.read.later b19_20).str d19
  have b18_20 := below_then b18_19 b19_20
  have t2 := (r18.later b18_20).str d18
  have z45 := (b4_5).size
  have z56 := (b5_6).size
  have z67 := (b6_7).size
  have z78 := (b7_8).size
  have z89 := (b8_9).size
  have z910 := (b9_10).size
  have b10_12 := below_then b10_11 b11_12
  have b10_13 := below_then b10_12 b12_13
  have b10_14 := below_then b10_13 b13_14
  have b10_15 := below_then b10_14 b14_15
  have z1015 := (b10_15).size
  have z16 := hg16.size
  have z1618 := (b16_18).size
  have z1819 := (b18_19).size
  have z1920 := (b19_20).size
  have z34 := (b3_4).size
  have b5_13 := below_then b5_12 b12_13
  have b5_14 := below_then b5_13 b13_14
  have b5_15 := below_then b5_14 b14_15
  have b16_19 := below_then b16_18 b18_19
  have b16_20 := below_then b16_19 b19_20
  have b7_14 := below_then b7_13 b13_14
  have b7_15 := below_then b7_14 b14_15
  have b9_11 := below_then b9_10 b10_11
  have b9_12 := below_then b9_11 b11_12
  have b9_13 := below_then b9_12 b12_13
  have b9_14 := below_then b9_13 b13_14
  have b9_15 := below_then b9_14 b14_15
  have HC : Hid (Chain w20 w4.heap.size [(q5, X.length, d5), (q7, X.length, d7), (q9, 1, d9), (q10, X.length, d10), (q19, Y.length, d19)]) := by
    refine ⟨w6.heap.size, ?_, w8.heap.size, ?_, w9.heap.size, ?_, w18.heap.size, ?_, w19.heap.size, m19.seg.later b19_20, trivial⟩
    · exact (((m5.seg.later b5_15).turn hg16 (by omega)).later b16_20).wider z56
    · exact (((m7.seg.later b7_15).turn hg16 (by omega)).later b16_20).wider z78
    · exact ((m9.seg.later b9_15).turn hg16 (by omega)).later b16_20
    · exact (((m10.seg.later b10_15).turn hg16 (by omega)).later b16_20).wider (by omega)
  have HD : Hid (Ytdfnpapnoedpkab.N.Chain w20 w4.heap.size [(p5, N.length, c5), (p7, N.length, c7), (p9, 2, c9), (p10, N.length, c10), (p19, M.length, c19)]) := by
    refine ⟨w6.heap.size, ?_, w8.heap.size, ?_, w9.heap.size, ?_, w18.heap.size, ?_, w19.heap.size, n19.seg.later b19_20, trivial⟩
    · exact (((n5.seg.later b5_15).turn hg16 (by omega)).later b16_20).wider z56
    · exact (((n7.seg.later b7_15).turn hg16 (by omega)).later b16_20).wider z78
    · exact ((n9.seg.later b9_15).turn hg16 (by omega)).later b16_20
    · exact (((n10.seg.later b10_15).turn hg16 (by omega)).later b16_20).wider (by omega)
  have HT : Hid (Below w0.heap.size w0 w20) := b0_16.trans ((b16_20).mono b0_16.size)
  have hq4 : w4.heap.size ≤ w20.heap.size := by omega
  have hq0 : w0.heap.size ≤ w4.heap.size := by omega
  clear b0_1 b0_10 b0_11 b0_12 b0_13 b0_14 b0_15 b0_16 b0_17 b0_2 b0_3 b0_4 b0_5 b0_6 b0_7 b0_8 b0_9 b10_11 b10_12 b10_13 b10_14 b10_15 b11_12 b12_13 b13_14 b14_15 b16_17 b16_18 b16_19 b16_20 b17_18 b18_19 b18_20 b19_20 b1_2 b2_10 b2_11 b2_12 b2_13 b2_3 b2_4 b2_5 b2_6 b2_7 b2_8 b2_9 b3_10 b3_11 b3_12 b3_13 b3_14 b3_15 b3_4 b3_5 b3_6 b3_7 b3_8 b3_9 b4_10 b4_11 b4_12 b4_13 b4_14 b4_15 b4_5 b4_6 b4_7 b4_8 b4_9 b5_10 b5_11 b5_12 b5_13 b5_14 b5_15 b5_6 b5_7 b5_8 b5_9 b6_7 b7_10 b7_11 b7_12 b7_13 b7_14 b7_15 b7_8 b7_9 b8_9 b9_10 b9_11 b9_12 b9_13 b9_14 b9_15 r3 s4 i2 r2 n5 m5 n7 m7 n9 m9 n10 m10 r16 s16 m17 i18 r18 n19 m19 hg16 h hi
  clear z23 zs4 zb z45 z56 z67 z78 z89 z910 z1015 z16 z1618 z1819 z1920 z34
  go_wp2_with fail
  clear t1 t2
  refine (apart5f w20 w4.heap.size q5 q7 q9 q10 q19 _ _ _ _ _ d5 d7 d9 d10 d19 hq4 HC.out).mono ?_
  rintro e w21 ⟨rfl, hb21, hfr⟩
  have HD2 : Hid (Ytdfnpapnoedpkab.N.Chain w21 w4.heap.size [(p5, N.length, c5), (p7, N.length, c7), (p9, 2, c9), (p10, N.length, c10), (p19, M.length, c19)]) := Ytdfnpapnoedpkab.N.Chain.frame hfr HD.out
  have HT2 : Hid (Below w0.heap.size w0 w21) := HT.out.trans (hb21.mono hq0)
  have hq5 : w4.heap.size ≤ w21.heap.size := Nat.le_trans hq4 hb21.size
  clear hfr hb21 HD HT HC
  go_wp2_with fail
  refine (apartN5 w21 w4.heap.size p5 p7 p9 p10 p19 _ _ _ _ _ c5 c7 c9 c10 c19 hq5 HD2.out).mono ?_
  rintro e w22 ⟨rfl, hb22⟩
  go_wp2
  go_ret
  exact ⟨rfl, HT2.out.trans (hb22.mono hq0)⟩

end Go.Proofs.Ytdfnpapnoedpkab
