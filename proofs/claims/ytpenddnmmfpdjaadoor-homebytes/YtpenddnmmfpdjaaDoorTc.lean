/-
  HomeTurned walked.
-/
import Derived.Test.YtpenddnmmfpdjaaDoorTb
import Derived.BigRegion
namespace Go.Proofs.YtpenddnmmfpdjaaDoor
open Go.RowKit

theorem size4 : (Tryd.prog.info? 32).map (·.size) = some 4 := by kernel_rfl
theorem build4 (w : World) : (Instr.build 32 #[]).run Tryd.prog w = .ok (.agg (U8 (zs 4)).toArray) w := run_build w 32 _ _ (by kernel_rfl)
theorem equalF (w : World) (d : Nat) (xs ys : List Int) (hx : xs.length = 4) (hy : ys.length = 4) :
    (Op.equalIn (d + 2) 32 (.agg (U8 xs).toArray) (.agg (U8 ys).toArray)).run Tryd.prog w = .ok (decide (xs = ys)) w := by
  rw [← all_range_eq xs ys (hx.trans hy.symm), hx, List.range_eq_range', Op.equalIn]
  simp only [Sem.run_bind, run_underlying Tryd.underlying32, Result.andThen_ok, sizeOf5, Std.Legacy.Range.forIn_eq_forIn_range', Std.Legacy.Range.size, Nat.sub_zero, Nat.add_sub_cancel, Nat.div_one]
  have hl : ∀ i ∈ List.range' 0 4 1, i < 4 := fun i hi => by simpa using (List.mem_range'_1.1 hi).2
  generalize List.range' 0 4 1 = l at hl ⊢
  induction l with
  | nil => simp
  | cons i l ih =>
    have hi : i < 4 := hl i (by simp)
    have px : (part 5 (U8 xs).toArray (i * 1)).run Tryd.prog w = .ok (.int .u8 (xs.getD i 0)) w := by
      simp [part, isAgg, run_underlying Tryd.underlying5, List.getD, List.getElem?_eq_getElem (show i < xs.length by omega)]
    have py : (part 5 (U8 ys).toArray (i * 1)).run Tryd.prog w = .ok (.int .u8 (ys.getD i 0)) w := by
      simp [part, isAgg, run_underlying Tryd.underlying5, List.getD, List.getElem?_eq_getElem (show i < ys.length by omega)]
    have pe : (Op.equalIn (d + 1) 5 (.int .u8 (xs.getD i 0)) (.int .u8 (ys.getD i 0))).run Tryd.prog w = .ok (xs.getD i 0 == ys.getD i 0) w := run_equalIn_int w d 5 .u8 .u8 _ _ Tryd.underlying5
    simp only [List.forIn_cons, Sem.run_bind, px, py, pe, Result.andThen_ok, List.all_cons]
    cases hb : (xs.getD i 0 == ys.getD i 0)
    · simp
    · simp only [Bool.not_true, Bool.false_eq_true, if_false, Sem.run_pure, Result.andThen_ok, Bool.true_and]
      exact ih fun j hj => hl j (by simp [hj])
theorem eqlF (w : World) (xs ys : List Int) (hx : xs.length = 4) (hy : ys.length = 4) :
    (binOp .eql 32 (.agg (U8 xs).toArray) (.agg (U8 ys).toArray)).run Tryd.prog w = .ok (.bool (decide (xs = ys))) w := by
  rw [run_eql_struct, equalF w 9998 xs ys hx hy]
  rfl
theorem eqgF : Tryd.prog.eqGuardType Tryd.prog.depth 32 = false := by kernel_rfl
theorem load4 {w : World} {g : Nat} {y : List Int} (h : LAt 32 w g (U8 y)) (hy : y.length = 4) : (Instr.loadAt 32 (.pointer (some ⟨g, 0, none⟩))).run Tryd.prog w = .ok (.agg (U8 y).toArray) w :=
  run_loadAt_mid w g 0 32 (U8 y) _ (LAt.range h) Tryd.underlying32 rfl (by rw [size4, U8_length, hy])
/-- four bytes as a number -/
def num4 (y : List Int) : Nat := word (y.getD 0 0).toNat (y.getD 1 0).toNat (y.getD 2 0).toNat (y.getD 3 0).toNat
theorem num4_lt {y : List Int} (h : Bytes y) (hl : y.length = 4) : num4 y < 4294967296 := by
  match y, hl with
  | [a, b, c, d], _ =>
    have h0 := h a (by simp); have h1 := h b (by simp); have h2 := h c (by simp); have h3 := h d (by simp)
    simp only [num4, word, List.getD_cons_zero, List.getD_cons_succ]
    omega
theorem num4_at {y : List Int} (h : Bytes y) (hl : y.length = 4) (j : Nat) (hj : j < 4) : (num4 y / 2 ^ (8 * j) % 256 : Nat) = (y.getD j 0).toNat := by
  match y, hl with
  | [a, b, c, d], _ =>
    have h0 := h a (by simp); have h1 := h b (by simp); have h2 := h c (by simp); have h3 := h d (by simp)
    have : j = 0 ∨ j = 1 ∨ j = 2 ∨ j = 3 := by omega
    rcases this with rfl | rfl | rfl | rfl <;> simp only [num4, word, List.getD_cons_zero, List.getD_cons_succ, Nat.reduceMul, Nat.reducePow, Nat.mul_zero, Nat.pow_zero] <;> omega
theorem num4_zero {y : List Int} (h : Bytes y) (hl : y.length = 4) : num4 y = 0 ↔ y = zs 4 := by
  match y, hl with
  | [a, b, c, d], _ =>
    have h0 := h a (by simp); have h1 := h b (by simp); have h2 := h c (by simp); have h3 := h d (by simp)
    simp only [num4, word, List.getD_cons_zero, List.getD_cons_succ, zs, List.replicate, List.cons.injEq, and_true]
    omega
/-- bytes turned by y from place i on, j of them -/
def turnY (X y : List Int) (i : Nat) : Nat → List Int
  | 0 => X
  | j + 1 => (turnY X y i j).set (i + j) (bits .xor .u8 ((turnY X y i j).getD (i + j) 0) (y.getD j 0))
theorem turnY_len (X y : List Int) (i : Nat) : ∀ j, (turnY X y i j).length = X.length
  | 0 => rfl
  | j + 1 => by rw [turnY, List.length_set, turnY_len X y i j]
theorem xor_zero8 (x : Int) (h : 0 ≤ x ∧ x < 256) : bits .xor .u8 x 0 = x := by
  have e := u8_xor_nat x.toNat 0 (by omega) (by omega)
  rw [Nat.xor_zero] at e
  have e2 : ((x.toNat : Nat) : Int) = x := by omega
  rw [e2] at e
  exact e
theorem turnY_zero {X : List Int} (hX : Bytes X) (i : Nat) : ∀ j, j ≤ 4 → i + j ≤ X.length → turnY X (zs 4) i j = X
  | 0, _, _ => rfl
  | j + 1, h, hl => by
    have hj : i + j < X.length := by omega
    have hz : (zs 4).getD j 0 = 0 := by
      have : j = 0 ∨ j = 1 ∨ j = 2 ∨ j = 3 := by omega
      rcases this with rfl | rfl | rfl | rfl <;> rfl
    have hg : X.getD (i + j) 0 = X[i + j] := by simp [List.getD, List.getElem?_eq_getElem hj]
    rw [turnY, turnY_zero hX i j (by omega) (by omega), hz, hg, xor_zero8 _ (hX.at _ hj), List.set_getElem_self]
theorem turnY_sum {X y : List Int} (hX : Bytes X) (hl : X.length = 64) (hy : Bytes y) (hyl : y.length = 4) (i : Nat) (hi : i ≤ 60) (hc : crc X = 558161692) : ∀ j, j ≤ 4 → Bytes (turnY X y i j) ∧ crc (turnY X y i j) = 558161692 ^^^ acc (num4 y) (64 - i) j
  | 0, _ => ⟨hX, by rw [acc_zero, Nat.xor_zero]; exact hc⟩
  | j + 1, h => by
    obtain ⟨h1, h2⟩ := turnY_sum hX hl hy hyl i hi hc j (by omega)
    have hlen := turnY_len X y i j
    have hj : i + j < (turnY X y i j).length := by omega
    have hg : (turnY X y i j).getD (i + j) 0 = (turnY X y i j)[i + j] := by simp [List.getD, List.getElem?_eq_getElem hj]
    have hyj : 0 ≤ y.getD j 0 ∧ y.getD j 0 < 256 := by
      rw [show y.getD j 0 = y[j]'(by omega) by simp [List.getD, List.getElem?_eq_getElem (show j < y.length by omega)]]
      exact hy.at j (by omega)
    have TT := turn_text (turnY X y i j) h1 (i + j) hj (y.getD j 0) hyj.1 hyj.2
    rw [turnY, hg]
    refine ⟨TT.1, ?_⟩
    rw [TT.2, h2, acc_step _ _ _ (by omega), Nat.xor_assoc, num4_at hy hyl j (by omega), hlen, hl]
    rw [show 64 - 1 - (i + j) = 64 - i - 1 - j by omega]
theorem turnY_told {X y : List Int} {b : Int} (hb : inB b) (hX : Bytes X) (hl : X.length = 64) (hy : Bytes y) (hyl : y.length = 4) (i : Nat) (hi : i ≤ 60) (hc : crc X = 558161692) (h0 : ¬ y = zs 4) : hdec (turnY X y i 4) b = (zs 32, 80) := by
  obtain ⟨h1, h2⟩ := turnY_sum hX hl hy hyl i hi hc 4 (by omega)
  refine hdec_turned hb (by rw [turnY_len, hl]) h1 fun h => ?_
  rw [h2] at h
  exact h0 ((num4_zero hy hyl).1 ((acc_four _ _ (num4_lt hy hyl)).1 ((xor_same _ _).1 h)))

set_option maxHeartbeats 400000 in
theorem own01_any (p : Option Addr) (n c : Nat) (xs : List Int) (w : World) (h : SB w p n c xs) (hbig : n ≤ 140737488355328) :
    Calls Tryd.prog 12 #[.slice p n c] w fun e w' => ∃ q d, e = .returned (.slice q n d) ∧ Made w w' q n d xs := by
  obtain ⟨i0, hi, hz0, hz1, hz2⟩ := info_parts info5
  have HX : Hid (SB (w.alloc (.cells #[] 5)) p n c xs) := h.later (below_alloc w _)
  have HN : Hid (p = none → n = 0 ∧ c = 0) := fun e => ⟨by have := h.nil e; have := h.le; omega, h.nil e⟩
  clear h
  go_enter Tryd.func12, Tryd.ntmps12
  go_wp2_with (at_builtin; refine wpList_append_ownany _ rfl _ _ 24 rfl w.heap.size 5 i0 (.int .u8 0) 1 1 Tryd.underlying24 hi hz0 hz1 hz2 rfl (by decide) _ 0 [] rfl (World.ownsRow_made w #[] 0 (Nat.le_refl _) (Nat.zero_le _) rfl) p n c (U8 xs) rfl HN.out (by rw [U8_length, HX.out.read.len, Nat.mul_one]) (fun ad e => by subst e; exact HX.out.read.news) (ones_u8 _) (by unfold maxLen; omega) (by omega) (by simp) ?_)
  intro v' w1 hown hgrow
  try simp only [Nat.zero_add, List.nil_append] at hown
  have hb : Below w.heap.size w w1 := ((Below.refl _ w).alloc (Nat.le_refl _) _).grown hgrow (by simp) (by intro k hk; simp [Value.ownBlock] at hk; omega)
  obtain ⟨q, d, rfl, hm⟩ := made_of hown HX.out.read.byte hb
  clear hown hgrow hb HX
  go_wp2_with fail
  go_ret
  exact ⟨q, d, rfl, hm⟩

set_option maxHeartbeats 4000000 in
set_option maxRecDepth 100000 in
theorem homeTurned_any (A : Int) (v : List Int) (hv : v.length = 32) (hvb : Bytes v) (M : Int) (y : List Int) (hy : y.length = 4) (hyb : Bytes y) (w : World) (ht : Tab w) :
    Calls Tryd.prog 4 #[.int .i64 A, .agg (U8 v).toArray, .int .i64 M, .agg (U8 y).toArray] w fun e w' => e = .returned (.bool true) ∧ Below w.heap.size w w' := by
  have HT : Hid (Tab w) := ht
  have HV : Hid (v.length = 32 ∧ Bytes v) := ⟨hv, hvb⟩
  have HY : Hid (y.length = 4 ∧ Bytes y) := ⟨hy, hyb⟩
  obtain ⟨w0, hw0⟩ : ∃ x, x = (w.alloc (.cells (U8 v).toArray 23)).alloc (.cells (U8 y).toArray 32) := ⟨_, rfl⟩
  have ew := hw0.symm
  have V0 : Hid (VAt w0 w.heap.size v) := by rw [hw0]; exact LAt.later (LAt.new 23 w _) (below_alloc _ _)
  have Y0 : Hid (LAt 32 w0 (w.heap.size + 1) (U8 y)) := by
    have := LAt.new 32 (w.alloc (.cells (U8 v).toArray 23)) (U8 y)
    rw [show (w.alloc (.cells (U8 v).toArray 23)).heap.size = w.heap.size + 1 by simp] at this
    rw [hw0]
    exact this
  have B0 : Hid (Below w.heap.size w w0) := by rw [hw0]; exact below_then (below_alloc w _) (below_alloc _ _)
  have L0 : Hid (_) := VAt.load V0.out hv
  obtain ⟨q, k, hi1, hi2, hi3, hi4, hi5, hi6⟩ := place A 64 (by omega)
  have hi1' : A.tmod 64 = q := hi1
  have hi4' : (q + 64).tmod 64 = (k : Int) := hi4
  have hi2' : -64 < q := hi2
  have hi3' : q < 64 := hi3
  obtain ⟨r, i, hj1, hj2, hj3, hj4, hj5, hj6⟩ := place M 61 (by omega)
  have hj1' : M.tmod 61 = r := hj1
  have hj4' : (r + 61).tmod 61 = (i : Int) := hj4
  have hj2' : -61 < r := hj2
  have hj3' : r < 61 := hj3
  clear hi1 hi2 hi3 hi4 hi5 hj1 hj2 hj3 hj4 hj5 hw0 ht hv hvb hy hyb
  have HB : Hid (inB (k : Int)) := ⟨by omega, by omega⟩
  go_enter Tryd.func4, Tryd.ntmps4
  go_wp2_with ((with_reducible refine at_ops ?_); (refine wpList_load_is (by rfl) 23 rfl rfl L0.out ?_); simp only [Act.put, List.setIfInBounds_toArray, List.set_cons_zero, List.set_cons_succ])
  clear ew hi1' hi4' hi2' hi3' hj1' hj4' hj2' hj3'
  refine (hencode_good (k : Int) v HB.out HV.out.1 HV.out.2 w0 (HT.out.later B0.out)).mono ?_
  rintro e w1 ⟨g1, rfl, m1⟩
  have B1 : Hid (Below w.heap.size w w1) := below_then B0.out m1.below
  have V1 : Hid (VAt w1 w.heap.size v) := LAt.later V0.out m1.below
  have Y1 : Hid (LAt 32 w1 (w.heap.size + 1) (U8 y)) := LAt.later Y0.out m1.below
  have X1 : Hid (SB w1 (some ⟨g1, 0, none⟩) 64 64 (homeS (k : Int) v)) := ⟨m1.read, m1.le, m1.nil⟩
  clear m1 B0 V0 L0 Y0
  go_wp2_with fail
  refine (awake_any w1 (HT.out.later B1.out)).mono ?_
  rintro e w2 ⟨rfl, b2⟩
  have B2 : Hid (Below w.heap.size w w2) := below_then B1.out b2
  have V2 : Hid (VAt w2 w.heap.size v) := LAt.later V1.out b2
  have Y2 : Hid (LAt 32 w2 (w.heap.size + 1) (U8 y)) := LAt.later Y1.out b2
  have X2 : Hid (SB w2 (some ⟨g1, 0, none⟩) 64 64 (homeS (k : Int) v)) := X1.out.later b2
  clear b2 B1 V1 Y1 X1
  go_wp2_with fail
  refine (own01_any _ 64 64 _ w2 X2.out (by omega)).mono ?_
  rintro e w3 ⟨q3, c3, rfl, m3⟩
  obtain ⟨g3, c3', e3, hc3⟩ := own_shape m3.own (by omega)
  simp only [Value.slice.injEq, true_and] at e3
  obtain ⟨rfl, rfl⟩ := e3
  have B3 : Hid (Below w.heap.size w w3) := below_then B2.out m3.below
  have V3 : Hid (VAt w3 w.heap.size v) := LAt.later V2.out m3.below
  have Y3 : Hid (LAt 32 w3 (w.heap.size + 1) (U8 y)) := LAt.later Y2.out m3.below
  have hg3 : w2.heap.size ≤ g3 := (m3.own.lt g3 rfl).1
  have O3 : Hid (w3.ownsRow w.heap.size 5 1 (.slice (some ⟨g3, 0, none⟩) 64 c3) 64 (U8 (turnY (homeS (k : Int) v) y i 0))) := own_mono m3.own B2.out.size
  have HG : Hid (w.heap.size + 1 < g3) := by have := LAt.lt Y2.out; show _ < _; omega
  obtain ⟨X, hX⟩ : ∃ X, X = homeS (k : Int) v := ⟨_, rfl⟩
  have EB : Hid (Bytes X ∧ X.length = 64 ∧ crc X = 558161692 ∧ hdec X (k : Int) = (v, 0)) := by rw [hX]; exact ⟨homeS_bytes HB.out HV.out.2, homeS_len _ HV.out.1, homeS_sum HB.out HV.out.2, hdec_homeS HB.out HV.out.1⟩
  rw [← hX] at O3
  clear m3 B2 V2 Y2 X2 hg3 hX
  go_wp2_with fail
  go_loopw [14] (fun u wr => ∃ j : Nat, j ≤ 4 ∧ u = .int .i64 j ∧ Hid (wr.ownsRow w.heap.size 5 1 (.slice (some ⟨g3, 0, none⟩) 64 c3) 64 (U8 (turnY X y i j)) ∧ VAt wr w.heap.size v ∧ LAt 32 wr (w.heap.size + 1) (U8 y) ∧ Below w.heap.size w wr)) (fun u _ => 4 - (intOf u).toNat)
  case atStart => exact ⟨0, by omega, rfl, O3.out, V3.out, Y3.out, B3.out⟩
  case round =>
    obtain ⟨j, hj, rfl, HR⟩ := hrel
    clear O3 V3 Y3 B3
    by_cases hlt : j < 4
    · have hlen : (turnY X y i j).length = 64 := by rw [turnY_len]; exact EB.out.2.1
      have hiY : i + j < (turnY X y i j).length := by omega
      have hcY : wr.cell? ⟨g3, i + j, none⟩ = some (.int .u8 ((turnY X y i j).getD (i + j) 0)) := by
        rw [HR.out.1.cellAt (i + j) (by omega)]
        simp [U8, List.getD, List.getElem?_eq_getElem hiY]
      have hcy : wr.cell? ⟨w.heap.size + 1, j, none⟩ = some (.int .u8 (y.getD j 0)) := by
        rw [LAt.cell HR.out.2.2.1 j]
        simp [U8, List.getD, List.getElem?_eq_getElem (show j < y.length by rw [HY.out.1]; exact hlt)]
      have hfz := HR.out.1.frozenAt (i + j)
      have hst := HR.out.1.stored (i + j) (.int .u8 (bits .xor .u8 ((turnY X y i j).getD (i + j) 0) (y.getD j 0)))
      have hset : (U8 (turnY X y i j)).set (i + j) (.int .u8 (bits .xor .u8 ((turnY X y i j).getD (i + j) 0) (y.getD j 0))) = U8 (turnY X y i (j + 1)) := by simp [U8, List.map_set, turnY]
      rw [hset] at hst
      have HZ : Hid ((wr.setCell ⟨g3, i + j, none⟩ (.int .u8 (bits .xor .u8 ((turnY X y i j).getD (i + j) 0) (y.getD j 0)))).drew.ownsRow w.heap.size 5 1 (.slice (some ⟨g3, 0, none⟩) 64 c3) 64 (U8 (turnY X y i (j + 1))) ∧ VAt (wr.setCell ⟨g3, i + j, none⟩ (.int .u8 (bits .xor .u8 ((turnY X y i j).getD (i + j) 0) (y.getD j 0)))).drew w.heap.size v ∧ LAt 32 (wr.setCell ⟨g3, i + j, none⟩ (.int .u8 (bits .xor .u8 ((turnY X y i j).getD (i + j) 0) (y.getD j 0)))).drew (w.heap.size + 1) (U8 y) ∧ Below w.heap.size w (wr.setCell ⟨g3, i + j, none⟩ (.int .u8 (bits .xor .u8 ((turnY X y i j).getD (i + j) 0) (y.getD j 0)))).drew) := by
        have := HG.out
        exact ⟨hst.1.drew, LAt.setO HR.out.2.1 _ _ (by omega), LAt.setO HR.out.2.2.1 _ _ (by omega), (HR.out.2.2.2.setCell (by show w.heap.size ≤ g3; omega) _).drew⟩
      clear hst hset HR hiY hlen
      generalize (turnY X y i j).getD (i + j) 0 = z at *
      generalize y.getD j 0 = t at *
      have i1 : (i : Int) + (j : Int) < 64 := by omega
      have i0 : (0 : Int) ≤ (i : Int) + (j : Int) := by omega
      go_wp2_with fail
      go_region
      generalize (wr.setCell ⟨g3, i + j, none⟩ (.int .u8 (bits .xor .u8 z t))).drew = w9 at *
      clear hcY hcy hfz
      go_wp2_with fail
      go_roundw
      case rel => exact ⟨j + 1, by omega, by go_num, HZ.out⟩
      case measure => simp [intOf]; omega
    · have hj4 : j = 4 := by omega
      have HQ : Hid (wr.ownsRow w.heap.size 5 1 (.slice (some ⟨g3, 0, none⟩) 64 c3) 64 (U8 (turnY X y i 4))) := by have := HR.out.1; rw [hj4] at this; exact this
      have V8 : Hid (VAt wr w.heap.size v) := HR.out.2.1
      have Y8 : Hid (LAt 32 wr (w.heap.size + 1) (U8 y)) := HR.out.2.2.1
      have B8 : Hid (Below w.heap.size w wr) := HR.out.2.2.2
      have R8 : Hid (BIn wr (some ⟨g3, 0, none⟩) 64 (turnY X y i 4)) := own_bin HQ.out (turnY_sum EB.out.1 EB.out.2.1 HY.out.2 HY.out.1 i (by omega) EB.out.2.2.1 4 (by omega)).1
      clear HR hj4 HQ
      go_wp2_with fail
      refine (hdecode_any (some ⟨g3, 0, none⟩) 64 c3 _ (k : Int) wr R8.out hc3 (HT.out.later B8.out)).mono ?_
      rintro e w9 ⟨rfl, b9⟩
      have B9 : Hid (Below w.heap.size w w9) := below_then B8.out b9
      have V9 : Hid (VAt w9 w.heap.size v) := LAt.later V8.out b9
      have Y9 : Hid (LAt 32 w9 (w.heap.size + 1) (U8 y)) := LAt.later Y8.out b9
      clear b9 B8 V8 Y8 R8
      by_cases h0 : y = zs 4
      · have e9 : hdec (turnY X y i 4) (k : Int) = (v, 0) := by rw [h0, turnY_zero EB.out.1 i 4 (by omega) (by rw [EB.out.2.1]; omega)]; exact EB.out.2.2.2
        rw [e9]
        have A9 : Hid (_) := allocV w9
        have S9 : Hid (_) := store_newV w9 v HV.out.1
        obtain ⟨w10, hw10⟩ : ∃ x, x = w9.alloc (.cells (U8 v).toArray 23) := ⟨_, rfl⟩
        have B10 : Hid (Below w.heap.size w w10) := by rw [hw10]; exact below_then B9.out (below_alloc _ _)
        have L10 : Hid (_) := VAt.load (LAt.new 23 w9 (U8 v)) HV.out.1
        have M10 : Hid (_) := VAt.load (LAt.later V9.out (below_alloc w9 (.cells (U8 v).toArray 23))) HV.out.1
        have N10 : Hid (_) := load4 (LAt.later Y9.out (below_alloc w9 (.cells (U8 v).toArray 23))) HY.out.1
        rw [← hw10] at S9 L10 M10 N10
        have U10 : Hid (_) := build4 w10
        have Q10 : Hid (_) := eqlF w10 y (zs 4) HY.out.1 (zs_len 4)
        rw [decide_eq_true h0] at Q10
        have P10 : Hid (_) := eqlV w10 v v HV.out.1 HV.out.1
        rw [decide_eq_true rfl] at P10
        clear hw10 e9 h0 B9 V9 Y9
        go_wp2_with ((with_reducible refine at_ops ?_); (first | (refine wpList_alloc_is (by rfl) 23 rfl A9.out ?_) | (refine wpList_store_is (by rfl) 23 rfl rfl rfl S9.out ?_) | (refine wpList_load_is (by rfl) 32 rfl rfl N10.out ?_) | (refine wpList_build_is (vs := []) (by rfl) 32 rfl (by rfl) U10.out ?_) | (refine wpList_eql_is (by rfl) 32 rfl rfl rfl eqgF Q10.out ?_) | (refine wpList_load_is (by rfl) 23 rfl rfl L10.out ?_) | (refine wpList_load_is (by rfl) 23 rfl rfl M10.out ?_) | (refine wpList_eql_is (by rfl) 23 rfl rfl rfl eqgV P10.out ?_)); simp only [Act.put, List.setIfInBounds_toArray, List.set_cons_zero, List.set_cons_succ])
        go_ret
        exact ⟨rfl, B10.out⟩
      · have e9 : hdec (turnY X y i 4) (k : Int) = (zs 32, 80) := turnY_told HB.out EB.out.1 EB.out.2.1 HY.out.2 HY.out.1 i (by omega) EB.out.2.2.1 h0
        rw [e9]
        have A9 : Hid (_) := allocV w9
        have S9 : Hid (_) := store_newV w9 (zs 32) (zs_len 32)
        obtain ⟨w10, hw10⟩ : ∃ x, x = w9.alloc (.cells (U8 (zs 32)).toArray 23) := ⟨_, rfl⟩
        have B10 : Hid (Below w.heap.size w w10) := by rw [hw10]; exact below_then B9.out (below_alloc _ _)
        have L10 : Hid (_) := VAt.load (LAt.new 23 w9 (U8 (zs 32))) (zs_len 32)
        have N10 : Hid (_) := load4 (LAt.later Y9.out (below_alloc w9 (.cells (U8 (zs 32)).toArray 23))) HY.out.1
        rw [← hw10] at S9 L10 N10 A9
        have U10 : Hid (_) := build4 w10
        have Q10 : Hid (_) := eqlF w10 y (zs 4) HY.out.1 (zs_len 4)
        rw [decide_eq_false h0] at Q10
        have W10 : Hid (_) := buildV w10
        have P10 : Hid (_) := eqlV w10 (zs 32) (zs 32) (zs_len 32) (zs_len 32)
        rw [decide_eq_true rfl] at P10
        clear hw10 e9 h0 B9 V9 Y9
        go_wp2_with ((with_reducible refine at_ops ?_); (first | (refine wpList_alloc_is (by rfl) 23 rfl A9.out ?_) | (refine wpList_store_is (by rfl) 23 rfl rfl rfl S9.out ?_) | (refine wpList_load_is (by rfl) 32 rfl rfl N10.out ?_) | (refine wpList_build_is (vs := []) (by rfl) 32 rfl (by rfl) U10.out ?_) | (refine wpList_eql_is (by rfl) 32 rfl rfl rfl eqgF Q10.out ?_) | (refine wpList_load_is (by rfl) 23 rfl rfl L10.out ?_) | (refine wpList_build_is (vs := []) (by rfl) 23 rfl (by rfl) W10.out ?_) | (refine wpList_eql_is (by rfl) 23 rfl rfl rfl eqgV P10.out ?_)); simp only [Act.put, List.setIfInBounds_toArray, List.set_cons_zero, List.set_cons_succ])
        go_ret
        exact ⟨rfl, B10.out⟩
end Go.Proofs.YtpenddnmmfpdjaaDoor
