/-
  The document's answers, third part: Zeros, Join, Turned.
-/
import Derived.Test.YtaencchobpgogaaDoorRb
namespace Go.Proofs.YtaencchobpgogaaDoor
open Go.RowKit

set_option maxHeartbeats 2000000 in
theorem zeros_any (x n : Nat) (hx : x < 4294967296) (hn63 : n < 9223372036854775808) (w : World) :
    Calls Tryd.prog 23 #[.int .u32 x, .int .i64 n] w fun e w' => e = .returned (.int .u32 (hn (8 * n) x : Nat)) ∧ Below w.heap.size w w' := by
  have HU := Tryd.underlying52
  have HW : Hid (Below w.heap.size w (w.alloc (.cells (List.replicate 32 (Value.int .u32 0)).toArray 52)) ∧ Row (w.alloc (.cells (List.replicate 32 (Value.int .u32 0)).toArray 52)) w.heap.size (List.replicate 32 (Value.int .u32 0))) := ⟨below_alloc w _, Go.heap_alloc_new w _⟩
  have e0 : (List.replicate 32 (Value.int .u32 0)).toArray = #[.int .u32 0, .int .u32 0, .int .u32 0, .int .u32 0, .int .u32 0, .int .u32 0, .int .u32 0, .int .u32 0, .int .u32 0, .int .u32 0, .int .u32 0, .int .u32 0, .int .u32 0, .int .u32 0, .int .u32 0, .int .u32 0, .int .u32 0, .int .u32 0, .int .u32 0, .int .u32 0, .int .u32 0, .int .u32 0, .int .u32 0, .int .u32 0, .int .u32 0, .int .u32 0, .int .u32 0, .int .u32 0, .int .u32 0, .int .u32 0, .int .u32 0, .int .u32 0] := rfl
  have HZ : Hid (part 8 0 = List.replicate 32 (.int .u32 0)) := part_zero _
  have H0 : Hid (Zer x n 8 x n) := Zer.start x n hx
  rw [e0] at HW
  clear e0
  go_enter Tryd.func23, Tryd.ntmps23
  go_wp2
  generalize w.alloc _ = W at *
  go_loopw [6] (fun i wr => ∃ j : Nat, j ≤ 32 ∧ i = .int .i64 j ∧ Hid (Below w.heap.size w wr ∧ Row wr w.heap.size (part 8 j))) (fun i _ => 32 - (intOf i).toNat)
  case atStart =>
    refine ⟨0, by omega, rfl, ?_⟩
    obtain ⟨h1, h2⟩ := HW.out
    exact ⟨h1, by rw [HZ.out]; exact h2⟩
  case round =>
    obtain ⟨j, hj, rfl, HR⟩ := hrel
    clear HW
    by_cases hlt : j < 32
    · obtain ⟨hB, hA⟩ := HR.out
      have hst := hA.cell j
      rw [part_get 8 j hlt] at hst
      have hfz := hA.free j
      have hb := bit_lt j hlt
      have hsh : IntKind.u32.wrap ((2 : Int) ^ j) = ((2 ^ j : Nat) : Int) := by
        rw [IntKind.wrap_u32', show (2 : Int) ^ j = ((2 ^ j : Nat) : Int) by simp]
        generalize 2 ^ j = t at *
        omega
      have HS : Hid (Below w.heap.size w (wr.setCell ⟨w.heap.size, j, none⟩ (.int .u32 ((hn 8 (2 ^ j) : Nat) : Int))) ∧ Row (wr.setCell ⟨w.heap.size, j, none⟩ (.int .u32 ((hn 8 (2 ^ j) : Nat) : Int))) w.heap.size (part 8 (j + 1))) := by
        refine ⟨hB.setCell (by simp) _, ?_⟩
        have := hA.put (j := j) (.int .u32 ((hn 8 (2 ^ j) : Nat) : Int))
        rw [part_step 8 j hlt] at this
        exact this
      clear hA hB HR
      go_wp2_with (go_at_call 22; refine (refPush_any (2 ^ j) 0 hb (by omega) (by omega) _).mono ?_; rintro e w' ⟨rfl, rfl⟩)
      go_roundw
      case rel => exact ⟨j + 1, by omega, by go_num, HS.out⟩
      case measure => simp [intOf]; omega
    · have HM : Hid (Below w.heap.size w wr ∧ Row wr w.heap.size (mat 8)) := ⟨HR.out.1, by have := HR.out.2; rw [show j = 32 by omega, part_all] at this; exact this⟩
      clear HR HZ
      obtain ⟨w2, hw2⟩ : ∃ w2, w2 = wr := ⟨_, rfl⟩
      subst hw2
      go_wp2
      go_loopw [0, 1] (fun y m wr => ∃ k z i : Nat, y = .int .u32 z ∧ m = .int .i64 i ∧ i < 9223372036854775808 ∧ Hid (Zer x n k z i) ∧ Hid (Below w.heap.size w wr ∧ Row wr w.heap.size (mat k))) (fun _ m _ => (intOf m).toNat)
      case atStart => exact ⟨8, x, n, rfl, rfl, hn63, H0, HM⟩
      case round =>
        obtain ⟨k, z, i, rfl, rfl, hi, HT, HR⟩ := hrel
        clear HM H0
        have hz := HT.out.1
        by_cases h0 : i = 0
        · subst h0
          have HE : Hid (z = hn (8 * n) x) := HT.out.stop
          go_wp2
          go_ret
          refine ⟨?_, HR.out.1⟩
          simp [HE.out]
        · have HI1 : (Tryd.prog.info? 52).map (·.size) = some (mat k).toArray.size := by rw [List.size_toArray, mat_length]; exact info52
          have HI2 : (Tryd.prog.info? 52).map (·.size) = some (mat (k + k)).toArray.size := by rw [List.size_toArray, mat_length]; exact info52
          have HL : Hid (∀ w' : World, Below wr.heap.size wr w' → Below w.heap.size w w' ∧ Row w' w.heap.size (mat k)) := fun w' hb => ⟨HR.out.1.trans (hb.mono HR.out.1.size), HR.out.2.later hb HR.out.2.lt⟩
          have HL2 : Hid (∀ w' : World, Below w.heap.size w w' ∧ Row w' w.heap.size (mat k) → w'.there w.heap.size 0 (mat (k + k)).toArray.size ∧ Below w.heap.size w (w'.setCells w.heap.size 0 (mat (k + k)).toArray.toList) ∧ Row (w'.setCells w.heap.size 0 (mat (k + k)).toArray.toList) w.heap.size (mat (k + k))) := fun w' h => ⟨h.2.there _ (by simp [mat_length]), below_setCells (Nat.le_refl _) _ _ _ _ h.1, h.2.whole (by simp [mat_length])⟩
          have HLL : Hid (∀ w1 w' : World, Below w.heap.size w w1 ∧ Row w1 w.heap.size (mat k) → Below w1.heap.size w1 w' → Below w.heap.size w w' ∧ Row w' w.heap.size (mat k)) := fun w1 w' h hb => ⟨h.1.trans (hb.mono h.1.size), h.2.later hb h.2.lt⟩
          by_cases hodd : i % 2 = 1
          · have HN : Hid (Zer x n (k + k) (hn k z) (i / 2)) := HT.out.odd hodd
            have ho' : (i : Int) % 2 = 1 := by omega
            go_wp2_with (first | (go_at_call 25; refine (of_any k _ hz _).mono ?_; rintro e w3 ⟨rfl, hb3⟩; have HR3 : Hid (Below w.heap.size w w3 ∧ Row w3 w.heap.size (mat k)) := HL.out w3 hb3; clear hb3) | (go_at_call 26; refine (mtimes_any k _).mono ?_; rintro e w4 ⟨rfl, hb4⟩; have HR4 : Hid (Below w.heap.size w w4 ∧ Row w4 w.heap.size (mat k)) := HLL.out w3 w4 HR3.out hb4; clear hb4) | (refine wpList_load_row rfl 52 (.tmp 5) rfl w.heap.size rfl 52 _ (0, 0) _ ?_ HU rfl HI1 ?_; exact HR3.out.2) | (refine wpList_load_row rfl 52 (.tmp 5) rfl w.heap.size rfl 52 _ (0, 0) _ ?_ HU rfl HI1 ?_; exact HR.out.2) | (refine wpList_store_mid rfl 52 (.tmp 5) (.tmp 26) rfl w.heap.size 0 (mat (k + k)).toArray rfl rfl ?_ HI2 (ones_mat _) ?_; exact (HL2.out _ HR4.out).1))
            go_roundw
            case rel => exact ⟨k + k, _, i / 2, rfl, by go_num, by omega, HN, (HL2.out _ HR4.out).2⟩
            case measure => simp [intOf]; omega
          · have HN : Hid (Zer x n (k + k) z (i / 2)) := HT.out.even (by omega)
            have ho' : ¬ (i : Int) % 2 = 1 := by omega
            go_wp2_with (first | (go_at_call 26; refine (mtimes_any k _).mono ?_; rintro e w4 ⟨rfl, hb4⟩; have HR4 : Hid (Below w.heap.size w w4 ∧ Row w4 w.heap.size (mat k)) := HL.out w4 hb4; clear hb4) | (refine wpList_load_row rfl 52 (.tmp 5) rfl w.heap.size rfl 52 _ (0, 0) _ ?_ HU rfl HI1 ?_; exact HR.out.2) | (refine wpList_store_mid rfl 52 (.tmp 5) (.tmp 26) rfl w.heap.size 0 (mat (k + k)).toArray rfl rfl ?_ HI2 (ones_mat _) ?_; exact (HL2.out _ HR4.out).1))
            go_roundw
            case rel => exact ⟨k + k, _, i / 2, rfl, by go_num, by omega, HN, (HL2.out _ HR4.out).2⟩
            case measure => simp [intOf]; omega

set_option maxHeartbeats 400000 in
theorem refJoin_any (a b : Nat) (n : Int) (ha : a < 4294967296) (hb : b < 4294967296) (hn63 : n < 9223372036854775808) (w : World) :
    Calls Tryd.prog 18 #[.int .u32 a, .int .u32 b, .int .i64 n] w fun e w' => e = .returned (.tuple #[.int .u32 (joinS a b n).1, .int .i64 (joinS a b n).2]) ∧ Below w.heap.size w w' := by
  by_cases h : n < 0
  · rw [joinS_no a b n h]
    go_enter Tryd.func18, Tryd.ntmps18
    go_wp2
    go_ret2
    exact ⟨rfl, Below.refl _ _⟩
  · obtain ⟨m, rfl⟩ := Int.eq_ofNat_of_zero_le (show 0 ≤ n by omega)
    rw [joinS_yes a b m]
    have hl := hn_lt (8 * m) a ha
    have hx := u32_xor_nat _ b hl hb
    go_enter Tryd.func18, Tryd.ntmps18
    go_wp2_with (go_at_call 23; refine (zeros_any a m ha (by omega) _).mono ?_; rintro e w' ⟨rfl, hb'⟩; have HB : Hid (Below w.heap.size w w') := hb'; clear hb')
    go_ret2
    exact ⟨rfl, HB.out⟩

set_option maxHeartbeats 400000 in
theorem refTurned_any (n i x : Int) (hn1 : -9223372036854775808 ≤ n) (hn2 : n < 9223372036854775808) (hi1 : -9223372036854775808 ≤ i) (hi2 : i < 9223372036854775808) (hx0 : 0 ≤ x) (hx1 : x < 256) (w : World) :
    Calls Tryd.prog 19 #[.int .i64 n, .int .i64 i, .int .u8 x] w fun e w' => e = .returned (.tuple #[.int .u32 (turnS n i x).1, .int .i64 (turnS n i x).2]) ∧ Below w.heap.size w w' := by
  by_cases h : i < 0 ∨ n ≤ i
  · rw [turnS_no n i x h]
    go_enter Tryd.func19, Tryd.ntmps19
    go_wp2
    all_goals go_ret2
    all_goals exact ⟨rfl, Below.refl _ _⟩
  · have h1 : 0 ≤ i := by omega
    have h2 : i < n := by omega
    rw [turnS_yes n i x h1 h2]
    obtain ⟨m, hm⟩ := Int.eq_ofNat_of_zero_le (show 0 ≤ n - 1 - i by omega)
    have hl := hn_lt 8 x.toNat (by omega)
    clear h
    go_enter Tryd.func19, Tryd.ntmps19
    go_wp2_with (first | (go_at_call 22; refine (refPush_any 0 x (by omega) hx0 hx1 _).mono ?_; rintro e w' ⟨rfl, rfl⟩; rw [Nat.zero_xor]) | (go_at_call 23; refine (zeros_any _ m hl (by omega) _).mono ?_; rintro e w' ⟨rfl, hb'⟩; have HB : Hid (Below w.heap.size w w') := hb'; clear hb'))
    go_ret2
    exact ⟨by rw [hm]; rfl, HB.out⟩
end Go.Proofs.YtaencchobpgogaaDoor
