/-
  Layer 5: the statement BlocksForms: its walk.
-/
import Derived.Test.YtcmcifihhlfnbaaHb
import Derived.Deep.RegionHeld3
namespace Go.Proofs.Ytcmcifihhlfnbaa
open Go.RowKit

theorem below_undrew {B : Nat} {w w' : World} (h : Below B w.drew w') : Below B w w' := ⟨h.os, h.tape, h.output, h.size, h.block⟩
theorem Made.undrew {w w' : World} {p : Option Addr} {n c : Nat} {xs : List Int} (h : Made w.drew w' p n c xs) : Made w w' p n c xs := ⟨h.own, below_undrew h.below⟩
theorem IIn.drew {w : World} {p : Option Addr} {n : Nat} {xs : List Int} (h : IIn w p n xs) : IIn w.drew p n xs := ⟨h.len, h.cells⟩

set_option maxRecDepth 100000 in
set_option maxHeartbeats 8000000 in
theorem blocksForms_is (p q : Option Addr) (n c m d : Nat) (xs ys : List Int) (x y : Int) (w0 : World) (h : IIn w0 p n xs) (k : IIn w0 q m ys) (hnc : n ≤ c) (hmd : m ≤ d) (hp : p = none → c = 0) (hq : q = none → d = 0) (hn : n + 80 ≤ 17592186044416) (hm : m + 80 ≤ 17592186044416) :
    Calls Try.prog 5 #[.slice p n c, .agg #[.int .i64 x, .int .i64 y], .slice q m d] w0 fun e w' => e = .returned (.bool true) ∧ Below w0.heap.size w0 w' := by
  obtain ⟨T, hT⟩ : ∃ T, turnS xs = T := ⟨_, rfl⟩
  obtain ⟨F, E, hF⟩ : ∃ F E, formS xs x y = (F, E) := ⟨_, _, rfl⟩
  obtain ⟨F2, E2, hF2⟩ : ∃ F E, formS T x y = (F, E) := ⟨_, _, rfl⟩
  obtain ⟨F3, E3, hF3⟩ : ∃ F E, formS ys 64 16 = (F, E) := ⟨_, _, rfl⟩
  have lF : F.length + 80 ≤ 17592186044416 := by have := formS_len xs x y; rw [hF] at this; simp only at this; omega
  have lF2 : F2.length + 80 ≤ 17592186044416 := by have := formS_len T x y; rw [hF2] at this; simp only at this; omega
  have lF3 : F3.length + 80 ≤ 17592186044416 := by have := formS_len ys 64 16; rw [hF3] at this; simp only at this; omega
  have QT : Hid (turnS xs = T) := hT
  have QF : Hid (formS xs x y = (F, E)) := hF
  have QF2 : Hid (formS T x y = (F2, E2)) := hF2
  have QF3 : Hid (formS ys 64 16 = (F3, E3)) := hF3
  have Qp : Hid (p = none → c = 0) := hp
  have Qq : Hid (q = none → d = 0) := hq
  clear hT hF hF2 hF3 hp hq
  go_enter Try.func5, Try.ntmps5
  go_wp2_with fail
  have b0_1 := below_alloc w0 (.cells #[.int .i64 x, .int .i64 y] 30)
  have mc0 : (w0.alloc (.cells #[.int .i64 x, .int .i64 y] 30)).cell? ⟨w0.heap.size, 0, none⟩ = some (.int .i64 x) := by rw [cell_of_row _ w0.heap.size 0 _ 30 (0, 0) (heap_alloc_new w0 _)]; rfl
  have mc1 : (w0.alloc (.cells #[.int .i64 x, .int .i64 y] 30)).cell? ⟨w0.heap.size, 1, none⟩ = some (.int .i64 y) := by rw [cell_of_row _ w0.heap.size 1 _ 30 (0, 0) (heap_alloc_new w0 _)]; rfl
  have mlt : w0.heap.size < (w0.alloc (.cells #[.int .i64 x, .int .i64 y] 30)).heap.size := by simp
  obtain ⟨w1, hw1⟩ : ∃ w1, w0.alloc (.cells #[.int .i64 x, .int .i64 y] 30) = w1 := ⟨_, rfl⟩
  rw [hw1] at b0_1 mc0 mc1 mlt ⊢
  clear hw1
  have MC0 : Hid (w1.cell? ⟨w0.heap.size, 0, none⟩ = some (.int .i64 x)) := mc0
  have MC1 : Hid (w1.cell? ⟨w0.heap.size, 1, none⟩ = some (.int .i64 y)) := mc1
  clear mc0 mc1
  refine (awake_is w1).mono ?_
  rintro e w2 ⟨rfl, b1_2⟩
  have c0 := (b1_2.cell (p := ⟨w0.heap.size, 0, none⟩) mlt).trans MC0.out
  have c1 := (b1_2.cell (p := ⟨w0.heap.size, 1, none⟩) mlt).trans MC1.out
  go_wp2_with fail
  clear c0 c1
  have b0_2 := below_then b0_1 b1_2
  refine (rform_is p n c xs x y F E QF.out w2 hn (h.later b0_2)).mono ?_
  rintro e w3 ⟨q2, d2, rfl, r2⟩
  have b2_3 := r2.below
  go_wp2_with fail
  have b0_3 := below_then b0_2 b2_3
  refine (roomy_is p n c xs w3 (h.later b0_3) Qp.out hnc hn).mono ?_
  rintro e w4 ⟨g1, cap1, rfl, x4, b3_4⟩
  have z1 := x4.at
  have b1_3 := below_then b1_2 b2_3
  have b1_4 := below_then b1_3 b3_4
  have c0 := (b1_4.cell (p := ⟨w0.heap.size, 0, none⟩) mlt).trans MC0.out
  have c1 := (b1_4.cell (p := ⟨w0.heap.size, 1, none⟩) mlt).trans MC1.out
  go_wp2_with fail
  clear c0 c1
  refine (form_is _ n cap1 xs x y F E QF.out w4 hn x4.read).mono ?_
  rintro e w5 ⟨ql, dl, rfl, ml⟩
  have b4_5 := ml.below
  go_wp2_with fail
  have b3_5 := below_then b3_4 b4_5
  refine (same_eq ql q2 _ dl _ d2 F w5 ml.read (r2.read.later b3_5) lF).mono ?_
  rintro e w6 ⟨rfl, b5_6⟩
  have b1_5 := below_then b1_4 b4_5
  have b1_6 := below_then b1_5 b5_6
  have c0 := (b1_6.cell (p := ⟨w0.heap.size, 0, none⟩) mlt).trans MC0.out
  have c1 := (b1_6.cell (p := ⟨w0.heap.size, 1, none⟩) mlt).trans MC1.out
  go_wp2_with fail
  clear c0 c1
  have b4_6 := below_then b4_5 b5_6
  refine (form_is _ n cap1 xs x y F E QF.out w6 hn (x4.later b4_6).read).mono ?_
  rintro e w7 ⟨qm, dm, rfl, mm⟩
  have b6_7 := mm.below
  go_wp2_with fail
  have b3_6 := below_then b3_5 b5_6
  have b3_7 := below_then b3_6 b6_7
  refine (same_eq qm q2 _ dm _ d2 F w7 mm.read (r2.read.later b3_7) lF).mono ?_
  rintro e w8 ⟨rfl, b7_8⟩
  go_wp2_with fail
  have b0_4 := below_then b0_3 b3_4
  have b0_5 := below_then b0_4 b4_5
  have b0_6 := below_then b0_5 b5_6
  have b0_7 := below_then b0_6 b6_7
  have b0_8 := below_then b0_7 b7_8
  refine (roomy_is q m d ys w8 (k.later b0_8) Qq.out hmd hm).mono ?_
  rintro e w9 ⟨g2, cap2, rfl, y9, b8_9⟩
  go_wp2_with fail
  refine (form_is _ m cap2 ys 64 16 F3 E3 QF3.out w9 hm y9.read).mono ?_
  rintro e w10 ⟨qk, dk, rfl, mk⟩
  have b9_10 := mk.below
  have b1_7 := below_then b1_6 b6_7
  have b1_8 := below_then b1_7 b7_8
  have b1_9 := below_then b1_8 b8_9
  have b1_10 := below_then b1_9 b9_10
  have c0 := (b1_10.cell (p := ⟨w0.heap.size, 0, none⟩) mlt).trans MC0.out
  have c1 := (b1_10.cell (p := ⟨w0.heap.size, 1, none⟩) mlt).trans MC1.out
  go_wp2_with fail
  clear c0 c1
  have b4_7 := below_then b4_6 b6_7
  have b4_8 := below_then b4_7 b7_8
  have b4_9 := below_then b4_8 b8_9
  have b4_10 := below_then b4_9 b9_10
  refine (form_is _ n cap1 xs x y F E QF.out w10 hn (x4.later b4_10).read).mono ?_
  rintro e w11 ⟨qo, d_o, rfl, mo⟩
  have b10_11 := mo.below
  go_wp2_with fail
  have b3_8 := below_then b3_7 b7_8
  have b3_9 := below_then b3_8 b8_9
  have b3_10 := below_then b3_9 b9_10
  have b3_11 := below_then b3_10 b10_11
  refine (same_eq qo q2 _ d_o _ d2 F w11 mo.read (r2.read.later b3_11) lF).mono ?_
  rintro e w12 ⟨rfl, b11_12⟩
  go_wp2_with fail
  have b5_7 := below_then b5_6 b6_7
  have b5_8 := below_then b5_7 b7_8
  have b5_9 := below_then b5_8 b8_9
  have b5_10 := below_then b5_9 b9_10
  have b5_11 := below_then b5_10 b10_11
  have b5_12 := below_then b5_11 b11_12
  have b3_12 := below_then b3_11 b11_12
  refine (same_eq ql q2 _ dl _ d2 F w12 (ml.read.later b5_12) (r2.read.later b3_12) lF).mono ?_
  rintro e w13 ⟨rfl, b12_13⟩
  go_wp2_with fail
  have b7_9 := below_then b7_8 b8_9
  have b7_10 := below_then b7_9 b9_10
  have b7_11 := below_then b7_10 b10_11
  have b7_12 := below_then b7_11 b11_12
  have b7_13 := below_then b7_12 b12_13
  have b3_13 := below_then b3_12 b12_13
  refine (same_eq qm q2 _ dm _ d2 F w13 (mm.read.later b7_13) (r2.read.later b3_13) lF).mono ?_
  rintro e w14 ⟨rfl, b13_14⟩
  go_wp2_with fail
  have b0_9 := below_then b0_8 b8_9
  have b0_10 := below_then b0_9 b9_10
  have b0_11 := below_then b0_10 b10_11
  have b0_12 := below_then b0_11 b11_12
  have b0_13 := below_then b0_12 b12_13
  have b0_14 := below_then b0_13 b13_14
  have b4_11 := below_then b4_10 b10_11
  have b4_12 := below_then b4_11 b11_12
  have b4_13 := below_then b4_12 b12_13
  have b4_14 := below_then b4_13 b13_14
  refine (held_is _ g1 n cap1 c p xs w14 (x4.later b4_14) hn (h.later b0_14)).mono ?_
  rintro e w15 ⟨rfl, b14_15⟩
  go_wp2_with fail
  have b4_15 := below_then b4_14 b14_15
  have b0_15 := below_then b0_14 b14_15
  have b1_11 := below_then b1_10 b10_11
  have b1_12 := below_then b1_11 b11_12
  have b1_13 := below_then b1_12 b12_13
  have b1_14 := below_then b1_13 b13_14
  have b1_15 := below_then b1_14 b14_15
  have b5_13 := below_then b5_12 b12_13
  have b5_14 := below_then b5_13 b13_14
  have b5_15 := below_then b5_14 b14_15
  have b7_14 := below_then b7_13 b13_14
  have b7_15 := below_then b7_14 b14_15
  have b10_12 := below_then b10_11 b11_12
  have b10_13 := below_then b10_12 b12_13
  have b10_14 := below_then b10_13 b13_14
  have b10_15 := below_then b10_14 b14_15
  have b11_13 := below_then b11_12 b12_13
  have b11_14 := below_then b11_13 b13_14
  have b11_15 := below_then b11_14 b14_15
  refine (turn_x _ g1 n cap1 xs T QT.out w15 (x4.later b4_15) hn).mono ?_
  rintro e w16 ⟨rfl, xt, gt⟩
  have s0 := b0_1.size
  have s1 := b1_2.size
  have s2 := b2_3.size
  have s3 := b3_4.size
  have s4 := b4_5.size
  have s5 := b5_6.size
  have s6 := b6_7.size
  have s7 := b7_8.size
  have s8 := b8_9.size
  have s9 := b9_10.size
  have s10 := b10_11.size
  have s11 := b11_12.size
  have s12 := b12_13.size
  have s13 := b13_14.size
  have s14 := b14_15.size
  have b0_16 : Below w0.heap.size w0 w16 := b0_15.grown gt b0_15.size (by intro k hk; simp only [Option.some.injEq] at hk; omega)
  have bm : Below (w0.heap.size + 1) w1 w16 := (b1_15.mono (show w0.heap.size + 1 ≤ w1.heap.size from mlt)).grown gt (Nat.le_trans (show w0.heap.size + 1 ≤ w1.heap.size from mlt) b1_15.size) (by intro k hk; simp only [Option.some.injEq] at hk; omega)
  have MT0 : Hid (w16.cell? ⟨w0.heap.size, 0, none⟩ = some (.int .i64 x)) := (bm.cell (p := ⟨w0.heap.size, 0, none⟩) (Nat.lt_succ_self _)).trans MC0.out
  have MT1 : Hid (w16.cell? ⟨w0.heap.size, 1, none⟩ = some (.int .i64 y)) := (bm.cell (p := ⟨w0.heap.size, 1, none⟩) (Nat.lt_succ_self _)).trans MC1.out
  have tlt : w0.heap.size < w16.heap.size := by have := gt.size; omega
  have seg_ml := ((ml.seg lF).later b5_15).turn gt (by omega)
  have seg_mm := ((mm.seg lF).later b7_15).turn gt (by omega)
  have seg_mk := ((mk.seg lF3).later b10_15).turn gt (by omega)
  have seg_mo := ((mo.seg lF).later b11_15).turn gt (by omega)
  go_wp2_with fail
  refine wp_region_noPanic ?_
  refine wp_region_held_drew (S := fun w' => w'.cell? ⟨w0.heap.size, 0, none⟩ = some (.int .i64 x) ∧ w'.cell? ⟨w0.heap.size, 1, none⟩ = some (.int .i64 y)) (by kernel_rfl) ⟨MT0.out, MT1.out⟩ (fun hHeld => ?_)
  refine wpAnyH_take (i := 0) (v := ?v0) (by simp; rfl) (by kernel_rfl) (by kernel_rfl) (by kernel_rfl) (fun _ _ _ h => h) (Or.inl ⟨by rfl, ?y0⟩) hHeld ?r0
  case y0 => intro w hSw; obtain ⟨z8, z9⟩ := hSw; go_simp; with_reducible rfl
  simp only [Act.put, List.setIfInBounds_toArray, List.set_cons_zero, List.set_cons_succ]
  refine wpAnyH_take (i := 2) (v := ?v2) (by simp; rfl) (by kernel_rfl) (by kernel_rfl) (by kernel_rfl) (fun _ _ _ h => h) (Or.inl ⟨by rfl, ?y2⟩) hHeld ?r2
  case y2 => intro w hSw; obtain ⟨z8, z9⟩ := hSw; go_simp; with_reducible rfl
  simp only [Act.put, List.setIfInBounds_toArray, List.set_cons_zero, List.set_cons_succ]
  refine wpAnyH_take (i := 3) (v := ?v3) (by simp; rfl) (by kernel_rfl) (by kernel_rfl) (by kernel_rfl) (fun _ _ _ h => h) (Or.inl ⟨by rfl, ?y3⟩) hHeld ?r3
  case y3 => intro w hSw; obtain ⟨z8, z9⟩ := hSw; go_simp; with_reducible rfl
  simp only [Act.put, List.setIfInBounds_toArray, List.set_cons_zero, List.set_cons_succ]
  refine wpAnyH_take (i := 4) (v := ?v4) (by simp; rfl) (by kernel_rfl) (by kernel_rfl) (by kernel_rfl) (fun _ _ _ h => h) (Or.inl ⟨by rfl, ?y4⟩) hHeld ?r4
  case y4 => intro w hSw; obtain ⟨z8, z9⟩ := hSw; go_simp; with_reducible rfl
  simp only [Act.put, List.setIfInBounds_toArray, List.set_cons_zero, List.set_cons_succ]
  refine wpAnyH_take (i := 5) (v := ?v5) (by simp; rfl) (by kernel_rfl) (by kernel_rfl) (by kernel_rfl) (fun _ _ _ h => h) (Or.inl ⟨by rfl, ?y5⟩) hHeld ?r5
  case y5 => intro w hSw; obtain ⟨z8, z9⟩ := hSw; go_simp; with_reducible rfl
  simp only [Act.put, List.setIfInBounds_toArray, List.set_cons_zero, List.set_cons_succ]
  refine wpAnyH_ready (rs := [1]) (by kernel_rfl) (by simp) ?_
  refine AllReadyH.cons (by simp; rfl) (fun Kc hKc => ?_) AllReadyH.nil
  go_simp
  refine (own_is _ n cap1 T w16.drew xt.read.drew (fun e => by cases e) xt.room hn).mono ?_
  rintro e w17 ⟨qu, du, rfl, mu'⟩
  have mu := mu'.undrew
  clear mu'
  have b16_17 := mu.below
  refine hKc.out _ _ ⟨(b16_17.cell (p := ⟨w0.heap.size, 0, none⟩) tlt).trans MT0.out, (b16_17.cell (p := ⟨w0.heap.size, 1, none⟩) tlt).trans MT1.out⟩ (fun hHeld => ?_)
  clear hKc Kc
  refine wpAnyH_ready (rs := [6]) (by kernel_rfl) (by simp) ?_
  refine AllReadyH.cons (by simp; rfl) (fun Kc hKc => ?_) AllReadyH.nil
  go_simp
  refine (rform_is _ n du T x y F2 E2 QF2.out w17 hn mu.read).mono ?_
  rintro e w18 ⟨qv, dv, rfl, mv⟩
  have b17_18 := mv.below
  have b16_18 := below_then b16_17 b17_18
  refine hKc.out _ _ ⟨(b16_18.cell (p := ⟨w0.heap.size, 0, none⟩) tlt).trans MT0.out, (b16_18.cell (p := ⟨w0.heap.size, 1, none⟩) tlt).trans MT1.out⟩ (fun hHeld => ?_)
  clear hKc Kc
  refine wpAnyH_take (i := 7) (v := ?v7) (by simp; rfl) (by kernel_rfl) (by kernel_rfl) (by kernel_rfl) (fun _ _ _ h => h) (Or.inl ⟨by rfl, ?y7⟩) hHeld ?r7
  case y7 => intro w hSw; obtain ⟨z8, z9⟩ := hSw; go_simp; with_reducible rfl
  simp only [Act.put, List.setIfInBounds_toArray, List.set_cons_zero, List.set_cons_succ]
  refine wpAnyH_take (i := 8) (v := ?v8) (by simp; rfl) (by kernel_rfl) (by kernel_rfl) (by kernel_rfl) (fun _ _ _ h => h) (Or.inl ⟨by rfl, ?y8⟩) hHeld ?r8
  case y8 => intro w hSw; obtain ⟨z8, z9⟩ := hSw; go_simp; with_reducible rfl
  simp only [Act.put, List.setIfInBounds_toArray, List.set_cons_zero, List.set_cons_succ]
  refine wpAnyH_take (i := 9) (v := ?v9) (by simp; rfl) (by kernel_rfl) (by kernel_rfl) (by kernel_rfl) (fun _ _ _ h => h) (Or.inl ⟨by rfl, ?y9⟩) hHeld ?r9
  case y9 => intro w hSw; obtain ⟨z8, z9⟩ := hSw; go_simp; with_reducible rfl
  simp only [Act.put, List.setIfInBounds_toArray, List.set_cons_zero, List.set_cons_succ]
  refine wpAnyH_take (i := 10) (v := ?v10) (by simp; rfl) (by kernel_rfl) (by kernel_rfl) (by kernel_rfl) (fun _ _ _ h => h) (Or.inl ⟨by rfl, ?y10⟩) hHeld ?r10
  case y10 => intro w hSw; obtain ⟨z8, z9⟩ := hSw; go_simp; with_reducible rfl
  simp only [Act.put, List.setIfInBounds_toArray, List.set_cons_zero, List.set_cons_succ]
  refine wpAnyH_take (i := 11) (v := ?v11) (by simp; rfl) (by kernel_rfl) (by kernel_rfl) (by kernel_rfl) (fun _ _ _ h => h) (Or.inl ⟨by rfl, ?y11⟩) hHeld ?r11
  case y11 => intro w hSw; obtain ⟨z8, z9⟩ := hSw; go_simp; with_reducible rfl
  simp only [Act.put, List.setIfInBounds_toArray, List.set_cons_zero, List.set_cons_succ]
  refine wpAnyH_done (by kernel_rfl) (NoPanic.normal ?_) _
  clear hHeld
  have c0 := (b16_18.cell (p := ⟨w0.heap.size, 0, none⟩) tlt).trans MT0.out
  have c1 := (b16_18.cell (p := ⟨w0.heap.size, 1, none⟩) tlt).trans MT1.out
  go_wp2_with fail
  clear c0 c1
  refine (form_is _ n cap1 T x y F2 E2 QF2.out w18 hn (xt.later b16_18).read).mono ?_
  rintro e w19 ⟨qz, dz, rfl, mz⟩
  have b18_19 := mz.below
  go_wp2_with fail
  refine (same_eq qz qv _ dz _ dv F2 w19 mz.read (mv.read.later b18_19) lF2).mono ?_
  rintro e w20 ⟨rfl, b19_20⟩
  have b16_19 := below_then b16_18 b18_19
  have b16_20 := below_then b16_19 b19_20
  have s16 := b16_17.size
  have s17 := b17_18.size
  have s18 := b18_19.size
  have s19 := b19_20.size
  have s15 := gt.size
  have HC : Hid (Chain w20 w4.heap.size [(ql, F.length, dl), (qm, F.length, dm), (qk, F3.length, dk), (qo, F.length, d_o), (qz, F2.length, dz)]) := by
    refine ⟨w6.heap.size, ?_, w9.heap.size, ?_, w10.heap.size, ?_, w18.heap.size, ?_, w19.heap.size, (mz.seg lF2).later b19_20, trivial⟩
    · exact (seg_ml.later b16_20).wider (by omega)
    · exact (seg_mm.later b16_20).wider (by omega)
    · exact (seg_mk.later b16_20).wider (by omega)
    · exact (seg_mo.later b16_20).wider (by omega)
  have HT : Hid (Below w0.heap.size w0 w20) := b0_16.trans (b16_20.mono b0_16.size)
  have HQ : Hid (w4.heap.size ≤ w20.heap.size) := by show _ ≤ _; omega
  have HQ0 : Hid (w0.heap.size ≤ w4.heap.size) := by show _ ≤ _; omega
  clear b0_1 b0_10 b0_11 b0_12 b0_13 b0_14 b0_15 b0_16 b0_2 b0_3 b0_4 b0_5 b0_6 b0_7 b0_8 b0_9 b10_11 b10_12 b10_13 b10_14 b10_15 b11_12 b11_13 b11_14 b11_15 b12_13 b13_14 b14_15 b16_17 b16_18 b16_19 b16_20 b17_18 b18_19 b19_20 b1_10 b1_11 b1_12 b1_13 b1_14 b1_15 b1_2 b1_3 b1_4 b1_5 b1_6 b1_7 b1_8 b1_9 b2_3 b3_10 b3_11 b3_12 b3_13 b3_4 b3_5 b3_6 b3_7 b3_8 b3_9 b4_10 b4_11 b4_12 b4_13 b4_14 b4_15 b4_5 b4_6 b4_7 b4_8 b4_9 b5_10 b5_11 b5_12 b5_13 b5_14 b5_15 b5_6 b5_7 b5_8 b5_9 b6_7 b7_10 b7_11 b7_12 b7_13 b7_14 b7_15 b7_8 b7_9 b8_9 b9_10 s0 s1 s2 s3 s4 s5 s6 s7 s8 s9 s10 s11 s12 s13 s14 s15 s16 s17 s18 s19 z1 bm MT0 MT1 tlt mlt seg_ml seg_mm seg_mk seg_mo gt xt x4 y9 ml mm mk mo mz mu mv r2 h k
  go_wp2_with fail
  refine (apart5 w20 w4.heap.size ql qm qk qo qz _ _ _ _ _ dl dm dk d_o dz HQ.out HC.out).mono ?_
  rintro e w21 ⟨rfl, hb⟩
  have HF : Hid (Below w0.heap.size w0 w21) := HT.out.trans (hb.mono HQ0.out)
  clear hb
  go_wp2
  go_ret
  exact ⟨rfl, HF.out⟩

end Go.Proofs.Ytcmcifihhlfnbaa
