/-
  HomeBytes walked.
-/
import Derived.Test.YtpenddnmmfpdjaaDoorRb
import Derived.Test.YtpenddnmmfpdjaaDoorTc
import Derived.Test.YtpenddnmmfpdjaaDoorAFc
namespace Go.Proofs.YtpenddnmmfpdjaaDoor
open Go.RowKit

def one9 : List Int := 9 :: zs 31
theorem one9_len : one9.length = 32 := rfl
theorem one9_bytes : Bytes one9 := Bytes.cons (by omega) (zs_bytes 31)
theorem build9 (w : World) : (Instr.build 23 #[(0, .int .u8 9)]).run Tryd.prog w = .ok (.agg (U8 one9).toArray) w := run_build w 23 _ _ (by kernel_rfl)
theorem Seg.ahead {w w' : World} {B T g : Nat} {r : Trip} (h : Seg w B T r) (hg : w.grownBy w' (some g)) (hlt : T ≤ g) : Seg w' B T r := by
  obtain ⟨xs, hx⟩ := h.own
  refine ⟨⟨xs, hx.kept hg ?_⟩, h.lt, h.le, h.size⟩
  cases hv : (valA r).ownBlock with
  | none => left; rfl
  | some k =>
    right
    intro e
    simp only [Option.some.injEq] at e
    obtain ⟨p, n, c⟩ := r
    cases p with
    | none => simp [valA, Value.ownBlock] at hv
    | some a =>
      have h1 := h.lt a rfl
      simp only [valA, Value.ownBlock, Option.some.injEq] at hv
      omega
theorem seg_of {w w' : World} {p : Option Addr} {n c : Nat} {xs : List Int} (m : Made w w' p n c xs) (hn : n + 80 ≤ 140737488355328) : Seg w' w.heap.size w'.heap.size (p, n, c) := Seg.made m.own m.below hn
theorem setRow_same {t : TypeId} {w : World} {g : Nat} {cs : List Value} (h : LAt t w g cs) : w.setRow g cs.toArray = w := by
  refine world_ext _ _ ?_ rfl rfl rfl rfl
  apply Array.ext_getElem?
  intro k
  by_cases c : k = g
  · subst c
    exact (LAt.stored h cs).trans h.symm
  · exact setRow_other _ _ _ _ c
theorem own_box {w : World} {base n k : Nat} {v : Value} {xs cs : List Value} (h : w.ownsRow base 5 1 v n xs) (hk : LAt 23 w k cs) (ds : Array Value) : (w.setRow k ds).ownsRow base 5 1 v n xs :=
  own_same h fun j hj => by
    obtain ⟨sz, hb⟩ := own_ownBlk h hj
    exact setRow_other _ _ _ _ (hb.ne (⟨_, hk, rfl⟩ : Blk w k 23 cs.toArray.size) (by decide))
theorem Seg.box {w : World} {B T k : Nat} {r : Trip} {cs : List Value} (h : Seg w B T r) (hk : LAt 23 w k cs) (ds : Array Value) : Seg (w.setRow k ds) B T r := by
  obtain ⟨xs, hx⟩ := h.own
  exact ⟨⟨xs, own_box hx hk ds⟩, h.lt, h.le, h.size⟩
theorem RoomAt.box {w : World} {B g n cap k : Nat} {xs : List Int} {cs : List Value} (h : RoomAt w B g n cap xs) (hk : LAt 23 w k cs) (ds : Array Value) : RoomAt (w.setRow k ds) B g n cap xs := ⟨own_box h.own hk ds, h.len, h.byte, h.cap2⟩
theorem Seg.lower {w : World} {B B' T : Nat} {r : Trip} (h : Seg w B T r) (hB : B' ≤ B) : Seg w B' T r := by
  obtain ⟨xs, hx⟩ := h.own
  exact ⟨⟨xs, own_mono hx hB⟩, h.lt, Nat.le_trans hB h.le, h.size⟩
theorem box_turn {w w' : World} {t : TypeId} {g k : Nat} {cs : List Value} (hb : LAt t w g cs) (hg : w.grownBy w' (some k)) (hne : g ≠ k) : LAt t w' g cs :=
  (hg.block g hb.lt (fun e => by simp at e; exact hne e)).trans hb
theorem below_turn {w0 w w' : World} {B k : Nat} (h : Below B w0 w) (hg : w.grownBy w' (some k)) (hB : B ≤ w.heap.size) (hk : B ≤ k) : Below B w0 w' := h.grown hg hB (fun g e => by simp at e; omega)

set_option maxHeartbeats 8000000 in
set_option maxRecDepth 100000 in
theorem homeBytes_any (b : Int) (v : List Int) (hv : v.length = 32) (hvb : Bytes v) (p : Option Addr) (n c : Nat) (xs : List Int) (w : World) (h : SB w p n c xs) (hbig : n + 80 ≤ 140737488355328) (ht : Tab w) :
    Calls Tryd.prog 7 #[.int .i64 b, .agg (U8 v).toArray, .slice p n c] w fun e w' => e = .returned (.bool true) ∧ Below w.heap.size w w' := by
  have HT : Hid (Tab w) := ht
  have HV : Hid (v.length = 32 ∧ Bytes v) := ⟨hv, hvb⟩
  obtain ⟨w0, hw0⟩ : ∃ x, x = w.alloc (.cells (U8 v).toArray 23) := ⟨_, rfl⟩
  have ew := hw0.symm
  have B0 : Hid (Below w.heap.size w w0) := by rw [hw0]; exact below_alloc w _
  have V0 : Hid (VAt w0 w.heap.size v) := by rw [hw0]; exact LAt.new 23 w _
  have S0 : Hid (SB w0 p n c xs) := h.later B0.out
  have HY : Hid (Bytes xs ∧ xs.length = n) := ⟨h.read.byte, h.read.len⟩
  clear hw0 h ht hv hvb
  obtain ⟨E, hE⟩ : ∃ E, E = hencT b v := ⟨_, rfl⟩
  have HE : Hid (E = hencT b v) := hE
  have HEB : Hid (Bytes E ∧ E.length ≤ 64) := by rw [hE]; exact ⟨hencT_bytes b HV.out.2, hencT_len b HV.out.1⟩
  obtain ⟨l, hl⟩ : ∃ l, l = E.length := ⟨_, rfl⟩
  have HL : Hid (l = E.length) := hl
  have hl64 : l ≤ 64 := by rw [hl]; exact HEB.out.2
  obtain ⟨R, hR⟩ : ∃ R, R = hdec xs b := ⟨_, rfl⟩
  have HR : Hid (R = hdec xs b) := hR
  have HRL : Hid (R.1.length = 32) := by rw [hR]; exact hdec_len _ _
  have e3 : (E.length == E.length) = true := by simp
  clear hE hl hR e3
  go_enter Tryd.func7, Tryd.ntmps7
  go_wp2_with fail
  clear ew
  refine (awake_any w0 (HT.out.later B0.out)).mono ?_
  rintro e w1 ⟨rfl, b1⟩
  have B1 : Hid (Below w.heap.size w w1) := below_then B0.out b1
  have V1 : Hid (VAt w1 w.heap.size v) := LAt.later V0.out b1
  have S1 : Hid (SB w1 p n c xs) := S0.out.later b1
  clear B0 V0 S0 b1
  have G1 : Hid (_) := VAt.load V1.out HV.out.1
  go_wp2_with ((with_reducible refine at_ops ?_); (refine wpList_load_is (by rfl) 23 rfl rfl G1.out ?_); simp only [Act.put, List.setIfInBounds_toArray, List.set_cons_zero, List.set_cons_succ])
  clear G1
  refine (rencode_any b v HV.out.1 HV.out.2 w1).mono ?_
  rintro e w2 ⟨p2, n2, c2, rfl, hn2, m2⟩
  rw [← HE.out] at m2 hn2
  rw [← HL.out] at hn2
  have hn2 := hn2.symm
  subst hn2
  have B2 : Hid (Below w.heap.size w w2) := below_then B1.out m2.below
  have V2 : Hid (VAt w2 w.heap.size v) := LAt.later V1.out m2.below
  have S2 : Hid (SB w2 p n c xs) := S1.out.later m2.below
  clear B1 V1 S1 
  have W2 : Hid (BIn w2 p2 l E) := m2.read
  have hs2 : Hid (w.heap.size ≤ w2.heap.size) := B2.out.size
  clear m2
  go_wp2_with fail
  refine (rdecode_any p n c xs b w2 S2.out.read).mono ?_
  rintro e w3 ⟨rfl, b3⟩
  rw [← HR.out]
  have A3 : Hid (_) := allocV w3
  have T3 : Hid (_) := store_newV w3 R.1 HRL.out
  obtain ⟨w4, hw4⟩ : ∃ x, x = w3.alloc (.cells (U8 R.1).toArray 23) := ⟨_, rfl⟩
  rw [← hw4] at T3
  have b4 : Below w2.heap.size w2 w4 := by rw [hw4]; exact below_then b3 (below_alloc _ _)
  have B4 : Hid (Below w.heap.size w w4) := below_then B2.out b4
  have V4 : Hid (VAt w4 w.heap.size v) := LAt.later V2.out b4
  have S4 : Hid (SB w4 p n c xs) := S2.out.later b4
  have W4 : Hid (BIn w4 p2 l E) := W2.out.later b4
  clear B2 V2 S2 W2 
  have P4 : Hid (VAt w4 w3.heap.size R.1) := by rw [hw4]; exact LAt.new 23 w3 _
  have hs3' : Hid (w.heap.size ≤ w3.heap.size) := by have := B4.out.size; have := LAt.lt V4.out; have := LAt.lt P4.out; have h3 := b3.size; have h2 := hs2.out; show _ ≤ _; omega
  have hs34 : Hid (w3.heap.size ≤ w4.heap.size) := by have := LAt.lt P4.out; show _ ≤ _; omega
  clear hw4 b3 b4
  have G4 : Hid (_) := VAt.load V4.out HV.out.1
  go_wp2_with ((with_reducible refine at_ops ?_); (first | (refine wpList_alloc_is (by rfl) 23 rfl A3.out ?_) | (refine wpList_store_is (by rfl) 23 rfl rfl rfl T3.out ?_) | (refine wpList_load_is (by rfl) 23 rfl rfl G4.out ?_)); simp only [Act.put, List.setIfInBounds_toArray, List.set_cons_zero, List.set_cons_succ])
  clear A3 T3 G4
  refine (hencode_any b v HV.out.1 HV.out.2 w4 (HT.out.later B4.out)).mono ?_
  rintro e w5 ⟨p5, n5, c5, rfl, hn5, m5⟩
  rw [← HE.out] at m5 hn5
  rw [← HL.out] at hn5
  have hn5 := hn5.symm
  subst hn5
  have B5 : Hid (Below w.heap.size w w5) := below_then B4.out m5.below
  have V5 : Hid (VAt w5 w.heap.size v) := LAt.later V4.out m5.below
  have S5 : Hid (SB w5 p n c xs) := S4.out.later m5.below
  have W5 : Hid (BIn w5 p2 l E) := W4.out.later m5.below
  have P5 : Hid (VAt w5 w3.heap.size R.1) := LAt.later P4.out m5.below
  clear B4 V4 S4 W4 P4 
  have X5 : Hid (BIn w5 p5 l E) := m5.read
  have XS5 : Hid (Seg w5 w4.heap.size w5.heap.size (p5, l, c5)) := seg_of m5 (by omega)
  have hs5 : Hid (w.heap.size ≤ w5.heap.size) := B5.out.size
  have hs3 : Hid (w3.heap.size < w5.heap.size) := LAt.lt P5.out
  clear m5
  go_wp2_with fail
  refine (roomy_x p n c xs w5 S5.out.read S5.out.nil S5.out.le hbig).mono ?_
  rintro e w6 ⟨g6, k6, rfl, r6, b6⟩
  have hg6 : w5.heap.size ≤ g6 := r6.at.1
  have B6 : Hid (Below w.heap.size w w6) := below_then B5.out b6
  have V6 : Hid (VAt w6 w.heap.size v) := LAt.later V5.out b6
  have S6 : Hid (SB w6 p n c xs) := S5.out.later b6
  have W6 : Hid (BIn w6 p2 l E) := W5.out.later b6
  have P6 : Hid (VAt w6 w3.heap.size R.1) := LAt.later P5.out b6
  have X6 : Hid (BIn w6 p5 l E) := X5.out.later b6
  have XS6 : Hid (Seg w6 w4.heap.size w5.heap.size (p5, l, c5)) := XS5.out.later b6
  clear B5 V5 S5 W5 P5 X5 XS5 
  have R6 : Hid (RoomAt w6 w5.heap.size g6 n k6 xs) := r6
  have R6a : Hid (g6 < w6.heap.size) := R6.out.at.2
  clear b6 r6
  have hk6 : n ≤ k6 := by have := R6.out.cap2; omega
  go_wp2_with fail
  refine (hdecode_any (some ⟨g6, 0, none⟩) n k6 xs b w6 R6.out.read hk6 (HT.out.later B6.out)).mono ?_
  rintro e w7 ⟨rfl, b7⟩
  rw [← HR.out]
  have A7 : Hid (_) := allocV w7
  have T7 : Hid (_) := store_newV w7 R.1 HRL.out
  obtain ⟨w8, hw8⟩ : ∃ x, x = w7.alloc (.cells (U8 R.1).toArray 23) := ⟨_, rfl⟩
  rw [← hw8] at T7
  have b8 : Below w6.heap.size w6 w8 := by rw [hw8]; exact below_then b7 (below_alloc _ _)
  have B8 : Hid (Below w.heap.size w w8) := below_then B6.out b8
  have V8 : Hid (VAt w8 w.heap.size v) := LAt.later V6.out b8
  have S8 : Hid (SB w8 p n c xs) := S6.out.later b8
  have W8 : Hid (BIn w8 p2 l E) := W6.out.later b8
  have P8 : Hid (VAt w8 w3.heap.size R.1) := LAt.later P6.out b8
  have X8 : Hid (BIn w8 p5 l E) := X6.out.later b8
  have XS8 : Hid (Seg w8 w4.heap.size w5.heap.size (p5, l, c5)) := XS6.out.later b8
  have R8 : Hid (RoomAt w8 w5.heap.size g6 n k6 xs) := R6.out.later b8
  clear B6 V6 S6 W6 P6 X6 XS6 R6 
  have Q8 : Hid (VAt w8 w7.heap.size R.1) := by rw [hw8]; exact LAt.new 23 w7 _
  have hQ : g6 < w7.heap.size := Nat.lt_of_lt_of_le R6a.out (by have := b7.size; omega)
  have hs8 : Hid (w5.heap.size ≤ w8.heap.size ∧ g6 < w8.heap.size) := by have := LAt.lt Q8.out; have := hg6; exact ⟨by omega, by omega⟩
  clear hw8 b7 b8
  obtain ⟨q, hq⟩ : ∃ q, q = hencE b := ⟨_, rfl⟩
  rw [← hq]
  clear hq
  have z1 := X8.out.str c5
  have z2 := W8.out.str c2
  have G8 : Hid (_) := VAt.load V8.out HV.out.1
  have L14 : Hid (_) := VAt.load Q8.out HRL.out
  have L9 : Hid (_) := VAt.load P8.out HRL.out
  have Q9 : Hid (_) := neqV w8 R.1 R.1 HRL.out HRL.out
  rw [decide_eq_true rfl] at Q9
  go_wp2_with ((with_reducible refine at_ops ?_); (first | (refine wpList_alloc_is (by rfl) 23 rfl A7.out ?_) | (refine wpList_store_is (by rfl) 23 rfl rfl rfl T7.out ?_) | (refine wpList_load_is (by rfl) 23 rfl rfl L14.out ?_) | (refine wpList_load_is (by rfl) 23 rfl rfl L9.out ?_) | (refine wpList_neq_is (by rfl) 23 rfl rfl rfl eqgV Q9.out ?_) | (refine wpList_load_is (by rfl) 23 rfl rfl G8.out ?_)); simp only [Act.put, List.setIfInBounds_toArray, List.set_cons_zero, List.set_cons_succ])
  clear A7 T7 z1 z2 G8 L14 L9 Q9
  refine (hencode_any b v HV.out.1 HV.out.2 w8 (HT.out.later B8.out)).mono ?_
  rintro e w9 ⟨p9, n9, c9, rfl, hn9, m9⟩
  rw [← HE.out] at m9 hn9
  rw [← HL.out] at hn9
  have hn9 := hn9.symm
  subst hn9
  have B9 : Hid (Below w.heap.size w w9) := below_then B8.out m9.below
  have V9 : Hid (VAt w9 w.heap.size v) := LAt.later V8.out m9.below
  have S9 : Hid (SB w9 p n c xs) := S8.out.later m9.below
  have W9 : Hid (BIn w9 p2 l E) := W8.out.later m9.below
  have P9 : Hid (VAt w9 w3.heap.size R.1) := LAt.later P8.out m9.below
  have X9 : Hid (BIn w9 p5 l E) := X8.out.later m9.below
  have XS9 : Hid (Seg w9 w4.heap.size w5.heap.size (p5, l, c5)) := XS8.out.later m9.below
  have R9 : Hid (RoomAt w9 w5.heap.size g6 n k6 xs) := R8.out.later m9.below
  have Q9 : Hid (VAt w9 w7.heap.size R.1) := LAt.later Q8.out m9.below
  clear B8 V8 S8 W8 P8 X8 XS8 R8 Q8 
  have Y9 : Hid (BIn w9 p9 l E) := m9.read
  have YS9 : Hid (Seg w9 w8.heap.size w9.heap.size (p9, l, c9)) := seg_of m9 (by omega)
  clear m9
  have z1 := Y9.out.str c9
  have z2 := W9.out.str c2
  have U9 : Hid (_) := build9 w9
  go_wp2_with ((with_reducible refine at_ops ?_); (refine wpList_build_is (vs := [(0, .int .u8 9)]) (by rfl) 23 rfl (by rfl) U9.out ?_); simp only [Act.put, List.setIfInBounds_toArray, List.set_cons_zero, List.set_cons_succ])
  clear z1 z2 U9
  refine (hencode_good 5 one9 ⟨by omega, by omega⟩ one9_len one9_bytes w9 (HT.out.later B9.out)).mono ?_
  rintro e w10 ⟨g10, rfl, m10⟩
  have B10 : Hid (Below w.heap.size w w10) := below_then B9.out m10.below
  have V10 : Hid (VAt w10 w.heap.size v) := LAt.later V9.out m10.below
  have S10 : Hid (SB w10 p n c xs) := S9.out.later m10.below
  have W10 : Hid (BIn w10 p2 l E) := W9.out.later m10.below
  have P10 : Hid (VAt w10 w3.heap.size R.1) := LAt.later P9.out m10.below
  have X10 : Hid (BIn w10 p5 l E) := X9.out.later m10.below
  have XS10 : Hid (Seg w10 w4.heap.size w5.heap.size (p5, l, c5)) := XS9.out.later m10.below
  have R10 : Hid (RoomAt w10 w5.heap.size g6 n k6 xs) := R9.out.later m10.below
  have Q10 : Hid (VAt w10 w7.heap.size R.1) := LAt.later Q9.out m10.below
  have Y10 : Hid (BIn w10 p9 l E) := Y9.out.later m10.below
  have YS10 : Hid (Seg w10 w8.heap.size w9.heap.size (p9, l, c9)) := YS9.out.later m10.below
  clear B9 V9 S9 W9 P9 X9 XS9 R9 Q9 Y9 YS9 
  have ZS10 : Hid (Seg w10 w9.heap.size w10.heap.size (some ⟨g10, 0, none⟩, 64, 64)) := seg_of m10 (by omega)
  clear m10
  go_wp2_with fail
  refine (hdecode_any (some ⟨g6, 0, none⟩) n k6 xs b w10 R10.out.read hk6 (HT.out.later B10.out)).mono ?_
  rintro e w11 ⟨rfl, b11⟩
  rw [← HR.out]
  have B11 : Hid (Below w.heap.size w w11) := below_then B10.out b11
  have V11 : Hid (VAt w11 w.heap.size v) := LAt.later V10.out b11
  have S11 : Hid (SB w11 p n c xs) := S10.out.later b11
  have W11 : Hid (BIn w11 p2 l E) := W10.out.later b11
  have P11 : Hid (VAt w11 w3.heap.size R.1) := LAt.later P10.out b11
  have X11 : Hid (BIn w11 p5 l E) := X10.out.later b11
  have XS11 : Hid (Seg w11 w4.heap.size w5.heap.size (p5, l, c5)) := XS10.out.later b11
  have R11 : Hid (RoomAt w11 w5.heap.size g6 n k6 xs) := R10.out.later b11
  have Q11 : Hid (VAt w11 w7.heap.size R.1) := LAt.later Q10.out b11
  have Y11 : Hid (BIn w11 p9 l E) := Y10.out.later b11
  have YS11 : Hid (Seg w11 w8.heap.size w9.heap.size (p9, l, c9)) := YS10.out.later b11
  have ZS11 : Hid (Seg w11 w9.heap.size w10.heap.size (some ⟨g10, 0, none⟩, 64, 64)) := ZS10.out.later b11
  clear B10 V10 S10 W10 P10 X10 XS10 R10 Q10 Y10 YS10 ZS10 b11
  have T11 : Hid (_) := VAt.store (v := R.1) Q11.out HRL.out HRL.out
  rw [setRow_same Q11.out] at T11
  have z1 := X11.out.str c5
  have z2 := W11.out.str c2
  have z3 := Y11.out.str c9
  have L14 : Hid (_) := VAt.load Q11.out HRL.out
  have L9 : Hid (_) := VAt.load P11.out HRL.out
  have Q9 : Hid (_) := neqV w11 R.1 R.1 HRL.out HRL.out
  rw [decide_eq_true rfl] at Q9
  go_wp2_with ((with_reducible refine at_ops ?_); (first | (refine wpList_store_is (by rfl) 23 rfl rfl rfl T11.out ?_) | (refine wpList_load_is (by rfl) 23 rfl rfl L14.out ?_) | (refine wpList_load_is (by rfl) 23 rfl rfl L9.out ?_) | (refine wpList_neq_is (by rfl) 23 rfl rfl rfl eqgV Q9.out ?_)); simp only [Act.put, List.setIfInBounds_toArray, List.set_cons_zero, List.set_cons_succ])
  clear T11 z1 z2 z3 L14 L9 Q9
  refine (held_x w5.heap.size g6 n k6 c p xs w11 R11.out hbig S11.out.read).mono ?_
  rintro e w12 ⟨rfl, b12⟩
  clear V11 S11 W11 X11 Y11
  have B12 : Hid (Below w.heap.size w w12) := below_then B11.out b12
  have P12 : Hid (VAt w12 w3.heap.size R.1) := LAt.later P11.out b12
  have XS12 : Hid (Seg w12 w4.heap.size w5.heap.size (p5, l, c5)) := XS11.out.later b12
  have R12 : Hid (RoomAt w12 w5.heap.size g6 n k6 xs) := R11.out.later b12
  have Q12 : Hid (VAt w12 w7.heap.size R.1) := LAt.later Q11.out b12
  have YS12 : Hid (Seg w12 w8.heap.size w9.heap.size (p9, l, c9)) := YS11.out.later b12
  have ZS12 : Hid (Seg w12 w9.heap.size w10.heap.size (some ⟨g10, 0, none⟩, 64, 64)) := ZS11.out.later b12
  clear B11 P11 XS11 R11 Q11 YS11 ZS11 b12
  go_wp2_with fail
  refine (turn_x w5.heap.size g6 n k6 xs w12 R12.out hbig).mono ?_
  rintro e w13 ⟨rfl, r13, t13⟩
  have s3 : w3.heap.size < w5.heap.size := hs3.out
  have B13 : Hid (Below w.heap.size w w13) := below_turn B12.out t13 B12.out.size (by have := hs5.out; omega)
  have P13 : Hid (VAt w13 w3.heap.size R.1) := box_turn P12.out t13 (by omega)
  have Q13 : Hid (VAt w13 w7.heap.size R.1) := box_turn Q12.out t13 (by omega)
  have XS13 : Hid (Seg w13 w4.heap.size w5.heap.size (p5, l, c5)) := XS12.out.ahead t13 (by omega)
  have YS13 : Hid (Seg w13 w8.heap.size w9.heap.size (p9, l, c9)) := YS12.out.turn t13 (by have := hs8.out; omega)
  have ZS13 : Hid (Seg w13 w9.heap.size w10.heap.size (some ⟨g10, 0, none⟩, 64, 64)) := ZS12.out.turn t13 (by have := hs8.out; have := YS12.out.le; omega)
  obtain ⟨ys, hys⟩ : ∃ ys, ys = xs.map flip := ⟨_, rfl⟩
  rw [← hys] at r13
  have R13 : Hid (RoomAt w13 w5.heap.size g6 n k6 ys) := r13
  clear r13 t13 hys B12 P12 Q12 XS12 YS12 ZS12 R12
  obtain ⟨F, hF⟩ : ∃ F, F = hdec ys b := ⟨_, rfl⟩
  have HF : Hid (F = hdec ys b) := hF
  have HFL : Hid (F.1.length = 32) := by rw [hF]; exact hdec_len _ _
  clear hF s3
  go_wp2_with fail
  refine (own_x (some ⟨g6, 0, none⟩) n k6 ys w13 R13.out.read (fun e => by cases e) hk6 hbig).mono ?_
  rintro e w14 ⟨p14, c14, rfl, m14⟩
  have B14 : Hid (Below w.heap.size w w14) := below_then B13.out m14.below
  have P14 : Hid (VAt w14 w3.heap.size R.1) := LAt.later P13.out m14.below
  have Q14 : Hid (VAt w14 w7.heap.size R.1) := LAt.later Q13.out m14.below
  have XS14 : Hid (Seg w14 w4.heap.size w5.heap.size (p5, l, c5)) := XS13.out.later m14.below
  have YS14 : Hid (Seg w14 w8.heap.size w9.heap.size (p9, l, c9)) := YS13.out.later m14.below
  have ZS14 : Hid (Seg w14 w9.heap.size w10.heap.size (some ⟨g10, 0, none⟩, 64, 64)) := ZS13.out.later m14.below
  have R14 : Hid (RoomAt w14 w5.heap.size g6 n k6 ys) := R13.out.later m14.below
  clear B13 P13 Q13 XS13 YS13 ZS13 R13 
  have O14 : Hid (BIn w14 p14 n ys) := m14.read
  clear m14
  go_wp2_with fail
  refine (rdecode_any p14 n c14 ys b w14 O14.out).mono ?_
  rintro e w15 ⟨rfl, b15⟩
  rw [← HF.out]
  have B15 : Hid (Below w.heap.size w w15) := below_then B14.out b15
  have P15 : Hid (VAt w15 w3.heap.size R.1) := LAt.later P14.out b15
  have Q15 : Hid (VAt w15 w7.heap.size R.1) := LAt.later Q14.out b15
  have XS15 : Hid (Seg w15 w4.heap.size w5.heap.size (p5, l, c5)) := XS14.out.later b15
  have YS15 : Hid (Seg w15 w8.heap.size w9.heap.size (p9, l, c9)) := YS14.out.later b15
  have ZS15 : Hid (Seg w15 w9.heap.size w10.heap.size (some ⟨g10, 0, none⟩, 64, 64)) := ZS14.out.later b15
  have R15 : Hid (RoomAt w15 w5.heap.size g6 n k6 ys) := R14.out.later b15
  clear B14 P14 Q14 XS14 YS14 ZS14 R14 b15 O14
  have T15 : Hid (_) := VAt.store (v := F.1) P15.out HRL.out HFL.out
  obtain ⟨w16, hw16⟩ : ∃ x, x = w15.setRow w3.heap.size (U8 F.1).toArray := ⟨_, rfl⟩
  have B16 : Hid (Below w.heap.size w w16) := by rw [hw16]; exact below_setRow B15.out (by have := hs3'.out; omega) _
  have P16 : Hid (VAt w16 w3.heap.size F.1) := by rw [hw16]; exact LAt.stored P15.out _
  have Q16 : Hid (VAt w16 w7.heap.size R.1) := by rw [hw16]; exact LAt.other Q15.out _ (by have := hs3.out; omega)
  have XS16 : Hid (Seg w16 w4.heap.size w5.heap.size (p5, l, c5)) := by rw [hw16]; exact XS15.out.box P15.out _
  have YS16 : Hid (Seg w16 w8.heap.size w9.heap.size (p9, l, c9)) := by rw [hw16]; exact YS15.out.box P15.out _
  have ZS16 : Hid (Seg w16 w9.heap.size w10.heap.size (some ⟨g10, 0, none⟩, 64, 64)) := by rw [hw16]; exact ZS15.out.box P15.out _
  have R16 : Hid (RoomAt w16 w5.heap.size g6 n k6 ys) := by rw [hw16]; exact R15.out.box P15.out _
  rw [← hw16] at T15
  clear hw16 B15 P15 Q15 XS15 YS15 ZS15 R15
  go_wp2_with ((with_reducible refine at_ops ?_); (refine wpList_store_is (by rfl) 23 rfl rfl rfl T15.out ?_); simp only [Act.put])
  clear T15
  refine (hdecode_any (some ⟨g6, 0, none⟩) n k6 ys b w16 R16.out.read hk6 (HT.out.later B16.out)).mono ?_
  rintro e w17 ⟨rfl, b17⟩
  rw [← HF.out]
  have B17 : Hid (Below w.heap.size w w17) := below_then B16.out b17
  have P17 : Hid (VAt w17 w3.heap.size F.1) := LAt.later P16.out b17
  have Q17 : Hid (VAt w17 w7.heap.size R.1) := LAt.later Q16.out b17
  have XS17 : Hid (Seg w17 w4.heap.size w5.heap.size (p5, l, c5)) := XS16.out.later b17
  have YS17 : Hid (Seg w17 w8.heap.size w9.heap.size (p9, l, c9)) := YS16.out.later b17
  have ZS17 : Hid (Seg w17 w9.heap.size w10.heap.size (some ⟨g10, 0, none⟩, 64, 64)) := ZS16.out.later b17
  have R17 : Hid (RoomAt w17 w5.heap.size g6 n k6 ys) := R16.out.later b17
  clear B16 P16 Q16 XS16 YS16 ZS16 R16 b17
  have T17 : Hid (_) := VAt.store (v := F.1) Q17.out HRL.out HFL.out
  obtain ⟨w18, hw18⟩ : ∃ x, x = w17.setRow w7.heap.size (U8 F.1).toArray := ⟨_, rfl⟩
  have B18 : Hid (Below w.heap.size w w18) := by rw [hw18]; exact below_setRow B17.out (by have := hs5.out; omega) _
  have P18 : Hid (VAt w18 w3.heap.size F.1) := by rw [hw18]; exact LAt.other P17.out _ (by have := hs3.out; omega)
  have Q18 : Hid (VAt w18 w7.heap.size F.1) := by rw [hw18]; exact LAt.stored Q17.out _
  have XS18 : Hid (Seg w18 w4.heap.size w5.heap.size (p5, l, c5)) := by rw [hw18]; exact XS17.out.box Q17.out _
  have YS18 : Hid (Seg w18 w8.heap.size w9.heap.size (p9, l, c9)) := by rw [hw18]; exact YS17.out.box Q17.out _
  have ZS18 : Hid (Seg w18 w9.heap.size w10.heap.size (some ⟨g10, 0, none⟩, 64, 64)) := by rw [hw18]; exact ZS17.out.box Q17.out _
  rw [← hw18] at T17
  have L14 : Hid (_) := VAt.load Q18.out HFL.out
  have L9 : Hid (_) := VAt.load P18.out HFL.out
  have Q9 : Hid (_) := eqlV w18 F.1 F.1 HFL.out HFL.out
  rw [decide_eq_true rfl] at Q9
  have CH : Hid (Chain w18 w4.heap.size [(p5, l, c5), (p9, l, c9), (some ⟨g10, 0, none⟩, 64, 64)]) := ⟨_, XS18.out, _, YS18.out.lower (by have := hs8.out; omega), _, ZS18.out, trivial⟩
  have hz4 : w4.heap.size ≤ w18.heap.size := by
    obtain ⟨z, hz⟩ := ZS18.out.own
    have h1 := (hz.lt g10 rfl)
    have := XS18.out.le; have := hs8.out; have := YS18.out.le
    omega
  clear hw18 B17 P17 Q17 XS17 YS17 ZS17 R17 P18 Q18 XS18 YS18 ZS18
  go_wp2_with ((with_reducible refine at_ops ?_); (first | (refine wpList_store_is (by rfl) 23 rfl rfl rfl T17.out ?_) | (refine wpList_load_is (by rfl) 23 rfl rfl L14.out ?_) | (refine wpList_load_is (by rfl) 23 rfl rfl L9.out ?_) | (refine wpList_eql_is (by rfl) 23 rfl rfl rfl eqgV Q9.out ?_)); simp only [Act.put, List.setIfInBounds_toArray, List.set_cons_zero, List.set_cons_succ])
  clear T17 L14 L9 Q9
  refine (apart3 w18 w4.heap.size p5 p9 (some ⟨g10, 0, none⟩) l l 64 c5 c9 64 hz4 CH.out).mono ?_
  rintro e w19 ⟨rfl, b19⟩
  have B19 : Hid (Below w.heap.size w w19) := B18.out.trans (b19.mono (by have := hs3'.out; have := hs34.out; omega))
  clear b19 B18 CH
  go_wp2_with fail
  go_ret
  exact ⟨rfl, B19.out⟩
end Go.Proofs.YtpenddnmmfpdjaaDoor
