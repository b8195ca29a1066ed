/-
  Contracts of layer 1, second part: octet.Put.
-/
import Derived.Test.YtefnkjajjidfaaaGreatDoorCa
namespace Go.Proofs.YtefnkjajjidfaaaGreatDoor
open Go.RowKit

set_option maxHeartbeats 400000 in
set_option maxRecDepth 100000 in
theorem put_input (n s : Int) (w : World) (hs : s < 1 ∨ 8 < s) :
    Calls Tryz.prog 72 #[.int .u64 n, .int .i64 s] w fun e w' => e = .returned (.tuple #[.slice none 0 0, .int .i64 2]) ∧ w = w' := by
  have hd : decide (1 ≤ s ∧ s ≤ 8) = false := decide_eq_false (by omega)
  go_enter Tryz.func72, Tryz.ntmps72
  go_wp2_with (go_at_call 87; refine (isSize_any _ _).mono ?_; rintro e w' ⟨rfl, rfl⟩)
  go_ret2
  exact ⟨rfl, rfl⟩

set_option maxHeartbeats 400000 in
set_option maxRecDepth 100000 in
theorem put_wide (n : Int) (k : Nat) (w : World) (_hn0 : 0 ≤ n) (hs : 1 ≤ k ∧ k ≤ 8) (hw : n / 256 ^ k ≠ 0) :
    Calls Tryz.prog 72 #[.int .u64 n, .int .i64 k] w fun e w' => e = .returned (.tuple #[.slice none 0 0, .int .i64 10]) ∧ w = w' := by
  have hd : decide (1 ≤ (k : Int) ∧ (k : Int) ≤ 8) = true := decide_eq_true (by omega)
  have hq := wide_yes n k hw
  clear hw
  go_enter Tryz.func72, Tryz.ntmps72
  go_wp2_with (go_at_call 87; refine (isSize_any _ _).mono ?_; rintro e w' ⟨rfl, rfl⟩)
  go_ret2
  exact ⟨rfl, rfl⟩

theorem made_filled (n : Int) (k : Nat) : (madeCells #[Value.int .u8 0] k).toList = U8 (filled (digits k n) 0) := by
  rw [filled_zero, digits_length, toList_madeCells_one]
  simp [U8]

set_option maxHeartbeats 1000000 in
set_option maxRecDepth 100000 in
theorem put_ok (n : Int) (k : Nat) (w : World) (_hn0 : 0 ≤ n) (hs : 1 ≤ k ∧ k ≤ 8) (hw : n / 256 ^ k = 0) :
    Calls Tryz.prog 72 #[.int .u64 n, .int .i64 k] w fun e w' => ∃ v', e = .returned (.tuple #[v', .int .i64 0]) ∧ w'.ownsRow w.heap.size 5 1 v' k (U8 (digits k n)) ∧ Below w.heap.size w w' := by
  obtain ⟨i0, hi, hz0, hz1, hz2⟩ := info_parts info5
  have hd : decide (1 ≤ (k : Int) ∧ (k : Int) ≤ 8) = true := decide_eq_true (by omega)
  have hq := wide_no n k hw
  clear hw
  go_enter Tryz.func72, Tryz.ntmps72
  go_wp2_with (first | (go_at_call 87; refine (isSize_any _ _).mono ?_; rintro e w' ⟨rfl, rfl⟩) | (at_make; refine wpList_make_full _ rfl _ _ 24 rfl w.heap.size 5 i0 (.int .u8 0) 1 Tryz.underlying24 hi hz0 hz1 .i64 .i64 _ _ k rfl rfl rfl rfl ?b2 ?b3 ?b4 ?_))
  case b2 => rw [hz2]; omega
  case b3 => unfold maxLen; omega
  case b4 => simp
  intro w1 hown hgrow
  rw [made_filled n k] at hown
  have hb := (Below.refl w.heap.size w).grown hgrow (Nat.le_refl _) (by intro k hk; cases hk)
  clear hgrow hq
  have HL : Hid ((digits k n).length = k) := digits_length k n
  go_wp2
  go_loopw [20] (fun i wr => ∃ j : Nat, j ≤ k ∧ i = .int .i64 j ∧ wr.ownsRow w.heap.size 5 1 (.slice (some ⟨w.heap.size, 0, none⟩) k k) k (U8 (filled (digits k n) j)) ∧ Below w.heap.size w wr) (fun i _ => k - (intOf i).toNat)
  case atStart => exact ⟨0, Nat.zero_le _, rfl, hown, hb⟩
  case round =>
    obtain ⟨j, hj, rfl, hown1, hb1⟩ := hrel
    by_cases hlt : j < k
    · have hdl : j < (digits k n).length := by rw [HL.out]; exact hlt
      have hst := hown1.stored j (.int .u8 ((digits k n)[j]))
      have hcell := hown1.cellAt j (by omega)
      have hlen : (U8 (filled (digits k n) j)).length = k := by simp [U8, filled_length _ _ (Nat.le_of_lt hdl), HL.out]
      obtain ⟨u, hu⟩ : ∃ u, wr.cell? ⟨w.heap.size, j, none⟩ = some u := ⟨_, by rw [hcell]; exact List.getElem?_eq_getElem (by omega)⟩
      have hfz := hown1.frozenAt j
      have HV : Hid (n / 2 ^ (8 * j) % 256 = (digits k n)[j]) := byte_of n k j hdl
      have HF : Hid ((U8 (filled (digits k n) j)).set j (.int .u8 ((digits k n)[j])) = U8 (filled (digits k n) (j + 1))) := by
        show _ = _
        rw [← filled_step _ _ hdl]
        simp [U8, List.map_set]
      have H1 := hst.1
      have H2 := hst.2
      rw [HF.out] at H1
      have HO : Hid (_) := H1
      have HG : Hid (_) := H2
      have HB : Hid (_) := hb1
      clear hst H1 H2 hcell hlen hown1 hb1 hown hb HF
      go_wp2
      go_roundw
      case rel =>
        rw [HV.out]
        exact ⟨j + 1, by omega, by go_num, HO.out, HB.out.grown HG.out (by have := HB.out.size; omega) (by intro q hq; simp at hq; omega)⟩
      case measure => simp [intOf]; omega
    · have hjk : j = k := by omega
      have HR := hown1
      rw [filled_all _ _ (by rw [HL.out]; omega)] at HR
      have HO : Hid (_) := HR
      have HB : Hid (_) := hb1
      clear HR hown1 hb1 hown hb hjk
      go_wp2
      go_ret2
      exact ⟨_, rfl, HO.out, HB.out⟩

theorem put_any (n s : Int) (w : World) (hn0 : 0 ≤ n) :
    Calls Tryz.prog 72 #[.int .u64 n, .int .i64 s] w fun e w' => ∃ v', e = .returned (.tuple #[v', .int .i64 (putS n s).2]) ∧
      w'.ownsRow w.heap.size 5 1 v' (putS n s).1.length (U8 (putS n s).1) ∧ Below w.heap.size w w' := by
  unfold putS
  by_cases hs : s < 1 ∨ 8 < s
  · rw [if_pos hs]
    refine (put_input n s w hs).mono ?_
    rintro e w' ⟨rfl, hw⟩
    subst hw
    exact ⟨_, rfl, World.ownsRow_nil _ _ _ _, Below.refl _ _⟩
  · rw [if_neg hs]
    obtain ⟨k, rfl⟩ := Int.eq_ofNat_of_zero_le (show 0 ≤ s by omega)
    rw [Int.toNat_natCast]
    by_cases hw : n / 256 ^ k ≠ 0
    · rw [if_pos hw]
      refine (put_wide n k w hn0 (by omega) hw).mono ?_
      rintro e w' ⟨rfl, hw⟩
      subst hw
      exact ⟨_, rfl, World.ownsRow_nil _ _ _ _, Below.refl _ _⟩
    · rw [if_neg hw]
      simp only [digits_length]
      exact put_ok n k w hn0 (by omega) (by simpa using hw)

end Go.Proofs.YtefnkjajjidfaaaGreatDoor
