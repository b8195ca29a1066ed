/-
  SumTurns walked.
-/
import Derived.Test.YtaencchobpgogaaDoorTb
import Derived.Deep.RegionHeld3
namespace Go.Proofs.YtaencchobpgogaaDoor
open Go.RowKit

/-- how a []Turn lies that is read: places and bytes -/
structure TIn (w : World) (p : Option Addr) (n : Nat) (ts : List (Int × Int)) : Prop where
  len : ts.length = n
  fit : ∀ t ∈ ts, -9223372036854775808 ≤ t.1 ∧ t.1 ≤ 9223372036854775807 ∧ 0 ≤ t.2 ∧ t.2 < 256
  cells : 0 < n → ∃ b o, p = some ⟨b, o, none⟩ ∧ ∀ i (h : i < ts.length), w.cell? ⟨b, o + i * 2, none⟩ = some (.int .i64 ts[i].1) ∧ w.cell? ⟨b, o + i * 2 + 1, none⟩ = some (.int .u8 ts[i].2)
theorem TIn.later {w w' : World} {p : Option Addr} {n : Nat} {ts : List (Int × Int)} (h : TIn w p n ts) (hb : Below w.heap.size w w') : TIn w' p n ts := by
  refine ⟨h.len, h.fit, fun h0 => ?_⟩
  obtain ⟨b, o, rfl, hc⟩ := h.cells h0
  refine ⟨b, o, rfl, fun i hi => ?_⟩
  obtain ⟨h1, h2⟩ := hc i hi
  rw [hb.cell (p := ⟨b, o + i * 2, none⟩) (World.block_lt_of_cell? w _ h1), hb.cell (p := ⟨b, o + i * 2 + 1, none⟩) (World.block_lt_of_cell? w _ h2)]
  exact ⟨h1, h2⟩

theorem own_pos {w : World} {B k : Nat} {v : Value} {X : List Int} (h : w.ownsRow B 5 1 v k (U8 X)) (h0 : 0 < k) : ∃ g cap, v = .slice (some ⟨g, 0, none⟩) k cap := by
  rcases h.2 with ⟨h1, h2⟩ | ⟨g, cap, cur, h1, _⟩
  · omega
  · exact ⟨g, cap, h1⟩

/-- a byte turned by x -/
theorem turn_text (X : List Int) (hX : Bytes X) (at0 : Nat) (h : at0 < X.length) (x : Int) (hx0 : 0 ≤ x) (hx1 : x < 256) :
    Bytes (X.set at0 (bits .xor .u8 X[at0] x)) ∧ crc (X.set at0 (bits .xor .u8 X[at0] x)) = crc X ^^^ hn (8 * (X.length - 1 - at0)) (hn 8 x.toNat) := by
  have hc := hX.at at0 h
  have hb := u8_xor X[at0] x hc.1 hc.2 hx0 hx1
  have hl : X[at0].toNat ^^^ x.toNat < 256 := Nat.xor_lt_two_pow (n := 8) (by omega) (by omega)
  refine ⟨fun y hy => ?_, ?_⟩
  · rcases List.mem_or_eq_of_mem_set hy with hy | rfl
    · exact hX y hy
    · rw [hb]; omega
  · have e : X = X.take at0 ++ X[at0] :: X.drop (at0 + 1) := by
      conv => lhs; rw [← List.take_append_drop at0 X, List.drop_eq_getElem_cons h]
    have e2 : X.set at0 (bits .xor .u8 X[at0] x) = X.take at0 ++ bits .xor .u8 X[at0] x :: X.drop (at0 + 1) := by
      rw [List.set_eq_take_append_cons_drop, if_pos h]
    rw [e2, crc_turn (X.take at0) X[at0] (X.drop (at0 + 1)) x.toNat _ (by rw [hb, Int.toNat_natCast]), ← e, List.length_drop]
    rw [show X.length - (at0 + 1) = X.length - 1 - at0 by omega]

theorem place (A : Int) (k : Nat) (hk : 0 < k) : ∃ (r : Int) (i : Nat), A.tmod k = r ∧ -(k : Int) < r ∧ r < k ∧ (r + k).tmod k = (i : Int) ∧ (r + k) % k = (i : Int) ∧ i < k := by
  have h1 : A.tmod k < k := Int.tmod_lt_of_pos A (by omega)
  have h2 : -(k : Int) < A.tmod k := by
    have := Int.lt_tmod_of_pos A (show (0 : Int) < k by omega)
    omega
  refine ⟨A.tmod k, ((A.tmod k + k) % k).toNat, rfl, h2, h1, ?_, ?_, ?_⟩
  · rw [Int.tmod_eq_emod_of_nonneg (by omega)]
    have := Int.emod_nonneg (A.tmod k + k) (show (k : Int) ≠ 0 by omega)
    omega
  · have := Int.emod_nonneg (A.tmod k + k) (show (k : Int) ≠ 0 by omega)
    omega
  · have := Int.emod_lt_of_pos (A.tmod k + k) (show (0 : Int) < k by omega)
    have := Int.emod_nonneg (A.tmod k + k) (show (k : Int) ≠ 0 by omega)
    omega

theorem turned_x (w : World) (ht : Tab w) (n i x : Int) (r : Nat) (e0 : Int) (h : turnS n i x = (r, e0)) (hn1 : -9223372036854775808 ≤ n) (hn2 : n < 9223372036854775808) (hi1 : -9223372036854775808 ≤ i) (hi2 : i < 9223372036854775808) (hx0 : 0 ≤ x) (hx1 : x < 256) :
    Calls Tryd.prog 12 #[.int .i64 n, .int .i64 i, .int .u8 x] w fun e w' => e = .returned (.tuple #[.int .u32 r, .int .i64 e0]) ∧ w = w' := by
  have := turned_any n i x hn1 hn2 hi1 hi2 hx0 hx1 w ht
  rw [h] at this
  exact this

set_option maxHeartbeats 4000000 in
set_option maxRecDepth 100000 in
theorem turns_loop (b o n c : Nat) (ts : List (Int × Int)) (p1 : Option Addr) (n1 c1 : Nat) (x1 : List Int) (w : World) (h1 : SB w p1 n1 c1 x1) (hT : TIn w (some ⟨b, o, none⟩) n ts) (h0 : 0 < n) (hnb : n ≤ 140737488355328) (ht : Tab w) :
    Calls Tryd.prog 5 #[.slice p1 n1 c1, .slice (some ⟨b, o, none⟩) n c] w fun e w' => e = .returned (.bool true) ∧ Below w.heap.size w w' := by
  have HT : Hid (Tab w) := ht
  have H1 : Hid (SB w p1 n1 c1 x1) := h1
  have H2 : Hid (TIn w (some ⟨b, o, none⟩) n ts) := hT
  clear ht h1 hT
  go_enter Tryd.func5, Tryd.ntmps5
  go_wp2_with fail
  refine (fixed_any _ HT.out).mono ?_
  rintro e w1 ⟨rfl, hb⟩
  have B1 : Hid (Below w.heap.size w w1) := hb
  clear hb
  go_wp2_with fail
  refine (some_any _ _ _ x1 w1 (H1.out.later B1.out).inn H1.out.nil H1.out.le).mono ?_
  rintro e w2 ⟨v, k, X, rfl, ho, hb, hX, hL, hk⟩
  have B2 : Hid (Below w.heap.size w w2) := below_then B1.out hb
  have O2 : Hid (w2.ownsRow w.heap.size 5 1 v k (U8 X)) := own_mono ho B1.out.size
  have BX : Hid (Bytes X) := hX
  have LX : Hid (X.length = k) := hL
  clear hb ho hX hL
  by_cases hk0 : 0 < k
  · obtain ⟨g, cap, rfl⟩ := own_pos O2.out hk0
    have S2 : Hid (SB w2 (some ⟨g, 0, none⟩) k cap X) := by
      obtain ⟨p', c', e, hB, hnc, hp, _⟩ := own_in O2.out BX.out
      cases e
      exact ⟨hB, hnc, hp⟩
    go_wp2_with fail
    refine (of1_x w2 _ _ _ X S2.out (by omega) (HT.out.later B2.out)).mono ?_
    rintro e w3 ⟨rfl, hb⟩
    have B3 : Hid (Below w.heap.size w w3) := below_then B2.out hb
    have O3 : Hid (w3.ownsRow w.heap.size 5 1 (.slice (some ⟨g, 0, none⟩) k cap) k (U8 X)) := own_later O2.out hb
    clear hb S2 O2 B2
    go_wp2
    go_loopw [5, 7] (fun s i wr => ∃ (j : Nat) (Y : List Int), j ≤ n ∧ j ≤ 20 ∧ i = .int .i64 j ∧ s = .int .u32 (crc Y : Nat) ∧ Hid (Bytes Y ∧ Y.length = k ∧ wr.ownsRow w.heap.size 5 1 (.slice (some ⟨g, 0, none⟩) k cap) k (U8 Y) ∧ Below w.heap.size w wr)) (fun _ i _ => n - (intOf i).toNat)
    case atStart => exact ⟨0, X, by omega, by omega, rfl, rfl, BX.out, LX.out, O3.out, B3.out⟩
    case round =>
      obtain ⟨j, Y, hj, hj2, rfl, rfl, HR⟩ := hrel
      clear O3 B3 BX LX
      obtain ⟨w4, hw4⟩ : ∃ w4, w4 = wr := ⟨_, rfl⟩
      subst hw4
      have lY := crc_lt Y HR.out.1
      by_cases hlt : j < n ∧ j < 20
      · obtain ⟨hl1, hl2⟩ := hlt
        have hjt : j < ts.length := by rw [H2.out.len]; exact hl1
        obtain ⟨b', o', e, hcs⟩ := (H2.out.later HR.out.2.2.2).cells h0
        simp only [Option.some.injEq, Addr.mk.injEq, and_true] at e
        obtain ⟨rfl, rfl⟩ := e
        obtain ⟨hcA, hcX⟩ := hcs j hjt
        obtain ⟨f1, f2, f3, f4⟩ := H2.out.fit ts[j] (List.getElem_mem hjt)
        generalize ts[j].1 = A at *
        generalize ts[j].2 = x at *
        clear hcs hjt
        obtain ⟨r, i, hr1, hr2, hr3, hr4, hr5, hi⟩ := place A k hk0
        have j1 : (j : Int) < (n : Int) := by omega
        have j2 : (j : Int) < 20 := by omega
        have j3 : (0 : Int) < (k : Int) := by omega
        have hiY : i < Y.length := by rw [HR.out.2.1]; exact hi
        have TT : Hid (_) := turn_text Y HR.out.1 i hiY x f3 f4
        obtain ⟨D, hD⟩ : ∃ D, D = hn (8 * (k - 1 - i)) (hn 8 x.toNat) := ⟨_, rfl⟩
        have hDl : D < 4294967296 := by rw [hD]; exact hn_lt _ _ (hn_lt _ _ (by omega))
        have hD0 : D = 0 ↔ x = 0 := by
          rw [hD]
          constructor
          · intro h
            have := hn_ne 8 _ (by omega) (hn_ne _ _ (hn_lt _ _ (by omega)) h)
            omega
          · rintro rfl
            simp [hn_zero]
        have hTS : turnS k i x = (D, 0) := by
          rw [turnS_yes _ _ _ (by omega) (by omega), hD]
          congr 3
          omega
        have TS : Hid (turnS k i x = (D, 0)) := hTS
        have HY : Hid (crc (Y.set i (bits .xor .u8 Y[i] x)) = crc Y ^^^ D ∧ Bytes (Y.set i (bits .xor .u8 Y[i] x))) := by
          refine ⟨?_, TT.out.1⟩
          rw [TT.out.2, hD, HR.out.2.1]
        clear TT hTS hD
        have hcY : w4.cell? ⟨g, i, none⟩ = some (.int .u8 Y[i]) := by
          rw [HR.out.2.2.1.cellAt i (by omega)]
          simp [U8, List.getElem?_eq_getElem hiY]
        have hfz := HR.out.2.2.1.frozenAt i
        have hgB : w.heap.size ≤ g := by have := HR.out.2.2.1.lt g rfl; omega
        go_wp2_with fail
        clear hr1 hr2 hr3 hr4 hr5 hcA f1 f2
        refine (turned_x w4 (HT.out.later HR.out.2.2.2) k i x D 0 TS.out (by omega) (by omega) (by omega) (by omega) f3 f4).mono ?_
        rintro e w' ⟨rfl, rfl⟩
        have i1 : (i : Int) < (k : Int) := by omega
        have i0 : (0 : Int) ≤ (i : Int) := by omega
        have hXor := u32_xor_nat (crc Y) D lY hDl
        have hb1 : ((D : Int) == 0) = (x == 0) := by
          rw [Bool.eq_iff_iff, beq_iff_eq, beq_iff_eq]
          omega
        clear hD0
        have hst := HR.out.2.2.1.stored i (.int .u8 (bits .xor .u8 Y[i] x))
        have hset : (U8 Y).set i (.int .u8 (bits .xor .u8 Y[i] x)) = U8 (Y.set i (bits .xor .u8 Y[i] x)) := by simp [U8, List.map_set]
        rw [hset] at hst
        rw [← HY.out.1] at hXor
        obtain ⟨Z, hZ⟩ : ∃ Z, Z = Y.set i (bits .xor .u8 Y[i] x) := ⟨_, rfl⟩
        have HZ5 : Hid (Bytes Z ∧ Z.length = k ∧ (w4.setCell ⟨g, i, none⟩ (.int .u8 (bits .xor .u8 Y[i] x))).drew.ownsRow w.heap.size 5 1 (.slice (some ⟨g, 0, none⟩) k cap) k (U8 Z) ∧ Below w.heap.size w (w4.setCell ⟨g, i, none⟩ (.int .u8 (bits .xor .u8 Y[i] x))).drew) := by
          rw [hZ]
          refine ⟨HY.out.2, by rw [List.length_set]; exact HR.out.2.1, hst.1.drew, ?_⟩
          exact (HR.out.2.2.2.setCell hgB _).drew
        rw [← hZ] at hXor
        have HX : Hid (bits .xor .u32 ((crc Y : Nat) : Int) (D : Int) = ((crc Z : Nat) : Int)) := hXor
        clear hst hset HY hXor HR hZ
        generalize Y[i] = y at *
        go_wp2_with fail
        go_region
        generalize (w4.setCell ⟨g, i, none⟩ (.int .u8 (bits .xor .u8 y x))).drew = w5 at *
        clear hcX hcY hfz
        have hXor := HX.out
        have S5 : Hid (SB w5 (some ⟨g, 0, none⟩) k cap Z) := by
          obtain ⟨p', c', e, hB, hnc, hp, _⟩ := own_in HZ5.out.2.2.1 HZ5.out.1
          cases e
          exact ⟨hB, hnc, hp⟩
        go_wp2_with fail
        refine (of1_x w5 _ _ _ Z S5.out (by omega) (HT.out.later HZ5.out.2.2.2)).mono ?_
        rintro e w6 ⟨rfl, hb⟩
        have H6 : Hid (Bytes Z ∧ Z.length = k ∧ w6.ownsRow w.heap.size 5 1 (.slice (some ⟨g, 0, none⟩) k cap) k (U8 Z) ∧ Below w.heap.size w w6) := ⟨HZ5.out.1, HZ5.out.2.1, own_later HZ5.out.2.2.1 hb, below_then HZ5.out.2.2.2 hb⟩
        clear hb HZ5 S5 hb1
        go_wp2_with fail
        go_roundw
        case rel => exact ⟨j + 1, Z, by omega, by omega, by go_num, rfl, H6.out⟩
        case measure => simp [intOf]; omega
      · have S5 : Hid (SB w4 (some ⟨g, 0, none⟩) k cap Y) := by
          obtain ⟨p', c', e, hB, hnc, hp, _⟩ := own_in HR.out.2.2.1 HR.out.1
          cases e
          exact ⟨hB, hnc, hp⟩
        by_cases hl1 : j < n
        · have j2 : ¬ (j : Int) < 20 := by omega
          have j1 : (j : Int) < (n : Int) := by omega
          go_wp2_with fail
          refine (of1_x w4 _ _ _ Y S5.out (by omega) (HT.out.later HR.out.2.2.2)).mono ?_
          rintro e w6 ⟨rfl, hb⟩
          have H6 : Hid (Below w.heap.size w w6) := below_then HR.out.2.2.2 hb
          clear hb
          go_wp2_with fail
          go_ret
          exact ⟨by simp, H6.out⟩
        · have j1 : ¬ (j : Int) < (n : Int) := by omega
          go_wp2_with fail
          refine (of1_x w4 _ _ _ Y S5.out (by omega) (HT.out.later HR.out.2.2.2)).mono ?_
          rintro e w6 ⟨rfl, hb⟩
          have H6 : Hid (Below w.heap.size w w6) := below_then HR.out.2.2.2 hb
          clear hb
          go_wp2_with fail
          go_ret
          exact ⟨by simp, H6.out⟩
  · obtain rfl : k = 0 := by omega
    obtain ⟨p', c', rfl, hB, hnc, hp, _⟩ := own_in O2.out BX.out
    have S2 : Hid (SB w2 p' 0 c' X) := ⟨hB, hnc, hp⟩
    clear hB hnc hp O2
    have j1 : (0 : Int) < (n : Int) := by omega
    go_wp2_with fail
    refine (of1_x w2 _ _ _ X S2.out (by omega) (HT.out.later B2.out)).mono ?_
    rintro e w3 ⟨rfl, hb⟩
    have B3 : Hid (Below w.heap.size w w3) := below_then B2.out hb
    have S3 : Hid (SB w3 p' 0 c' X) := S2.out.later hb
    clear hb
    go_wp2
    refine wp_loop_rounds 1 ?_
    rw [rounds_succ]
    go_wp2_with fail
    refine (of1_x w3 _ _ _ X S3.out (by omega) (HT.out.later B3.out)).mono ?_
    rintro e w6 ⟨rfl, hb⟩
    have H6 : Hid (Below w.heap.size w w6) := below_then B3.out hb
    clear hb
    go_wp2_with fail
    go_ret
    exact ⟨by simp, H6.out⟩
end Go.Proofs.YtaencchobpgogaaDoor
