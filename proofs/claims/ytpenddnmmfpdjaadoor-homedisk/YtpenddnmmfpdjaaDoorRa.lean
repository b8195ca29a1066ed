/-
  Contracts of the document of layer 2 that are called here: Push, Of.
-/
import Derived.Test.YtpenddnmmfpdjaaDoorWd
namespace Go.Proofs.YtpenddnmmfpdjaaDoor
open Go.RowKit

set_option maxHeartbeats 400000 in
set_option maxRecDepth 100000 in
theorem refPush_any (x : Nat) (c : Int) (hx : x < 4294967296) (hc0 : 0 ≤ c) (hc1 : c < 256) (w : World) :
    Calls Tryd.prog 74 #[.int .u32 x, .int .u8 c] w fun e w' => e = .returned (.int .u32 (hn 8 (x ^^^ c.toNat) : Nat)) ∧ w = w' := by
  obtain ⟨y, hy⟩ : ∃ y, y = x ^^^ c.toNat := ⟨_, rfl⟩
  have hyl : y < 4294967296 := by rw [hy]; exact xor_lt _ _ hx (by omega)
  have h1 : bits .xor .u32 (x : Int) c = (y : Int) := by
    rw [hy, ← u32_xor_nat x c.toNat hx (by omega)]
    congr 1
    omega
  rw [← hy]
  clear hy
  go_enter Tryd.func74, Tryd.ntmps74
  go_wp2
  go_loop [0, 5] (fun v i => ∃ k : Nat, k ≤ 8 ∧ i = .int .i64 k ∧ v = .int .u32 (hn k y : Nat)) (fun _ i => 8 - (intOf i).toNat)
  case atStart => exact ⟨0, by omega, rfl, rfl⟩
  case round =>
    obtain ⟨k, hk, rfl, rfl⟩ := hrel
    by_cases hlt : k < 8
    · have hl := hn_lt k y hyl
      have HN : Hid (hn (k + 1) y = hv (hn k y)) := hn_next k y
      obtain ⟨z, hz⟩ : ∃ z, z = hn k y := ⟨_, rfl⟩
      rw [← hz] at HN hl ⊢
      clear hz
      by_cases hodd : z % 2 = 1
      · have hx2 := u32_xor_nat (z / 2) 3988292384 (by omega) (by omega)
        have HV : Hid (hv z = z / 2 ^^^ 3988292384) := by show _ = _; unfold hv; rw [if_pos hodd]
        have ho' : (z : Int) % 2 = 1 := by omega
        have hx3 : bits .xor .u32 ((z : Int) / 2) 3988292384 = ((z / 2 ^^^ 3988292384 : Nat) : Int) := hx2
        clear hx2
        go_wp2
        go_round
        case rel => exact ⟨k + 1, by omega, by go_num, by rw [HN.out, HV.out]⟩
        case measure => simp [intOf]; omega
      · have HV : Hid (hv z = z / 2) := by show _ = _; unfold hv; rw [if_neg hodd, Nat.xor_zero]
        have ho' : ¬ (z : Int) % 2 = 1 := by omega
        go_wp2
        go_round
        case rel => exact ⟨k + 1, by omega, by go_num, by rw [HN.out, HV.out]; rfl⟩
        case measure => simp [intOf]; omega
    · obtain rfl : k = 8 := by omega
      go_wp2
      go_ret
      exact ⟨rfl, rfl⟩
set_option maxHeartbeats 1000000 in
set_option maxRecDepth 100000 in
theorem refOf_pos (b o n c : Nat) (xs : List Int) (w : World) (h : BIn w (some ⟨b, o, none⟩) n xs) (h0 : 0 < n) (hbig : n ≤ 140737488355328) :
    Calls Tryd.prog 67 #[.slice (some ⟨b, o, none⟩) n c] w fun e w' => e = .returned (.int .u32 (crc xs : Nat)) ∧ w = w' := by
  obtain ⟨b', o', e, hcs⟩ := h.cells h0
  simp only [Option.some.injEq, Addr.mk.injEq, and_true] at e
  obtain ⟨rfl, rfl⟩ := e
  have HC : Hid (∀ i, i < n → w.cell? ⟨b, o + i, none⟩ = some (.int .u8 (xs.getD i 0))) := hcs
  have HX : Hid (xs.length = n) := h.len
  have HK : Hid (Bytes xs) := h.byte
  clear hcs h
  go_enter Tryd.func67, Tryd.ntmps67
  go_wp2
  go_loop [3, 4] (fun x i => ∃ j : Nat, j ≤ n ∧ i = .int .i64 j ∧ x = .int .u32 (st 4294967295 (xs.take j) : Nat)) (fun _ i => n - (intOf i).toNat)
  case atStart => exact ⟨0, Nat.zero_le _, rfl, rfl⟩
  case round =>
    obtain ⟨j, hj, rfl, rfl⟩ := hrel
    have hlj := st_lt 4294967295 (xs.take j) (by omega) (HK.out.take j)
    by_cases hjl : j < n
    · have hcj := HC.out j hjl
      have hjx : j < xs.length := by rw [HX.out]; exact hjl
      have hb := HK.out.at j hjx
      have HJ : Hid (st 4294967295 (xs.take (j + 1)) = hn 8 (st 4294967295 (xs.take j) ^^^ xs[j].toNat)) := st_step _ xs j hjx
      rw [show xs.getD j 0 = xs[j] by simp [List.getD, List.getElem?_eq_getElem hjx]] at hcj
      obtain ⟨z, hz⟩ : ∃ z, z = st 4294967295 (xs.take j) := ⟨_, rfl⟩
      rw [← hz] at hlj HJ ⊢
      obtain ⟨q, hq⟩ : ∃ q, q = xs[j] := ⟨_, rfl⟩
      rw [← hq] at hb HJ hcj
      obtain ⟨hb0, hb1⟩ := hb
      clear hz hq
      go_wp2_with (go_at_call 74; refine (refPush_any z q hlj hb0 hb1 _).mono ?_; rintro e w' ⟨rfl, rfl⟩)
      go_round
      case rel => exact ⟨j + 1, by omega, by go_num, by rw [HJ.out]⟩
      case measure => simp [intOf]; omega
    · have HA : Hid (xs.take j = xs) := List.take_of_length_le (by rw [HX.out]; omega)
      have hxo := u32_xor_nat _ 4294967295 hlj (by omega)
      have HO : Hid (bits .xor .u32 ((st 4294967295 (xs.take j) : Nat) : Int) 4294967295 = ((crc xs : Nat) : Int)) := by
        show _ = _
        rw [crc, ← HA.out]
        simpa [HA.out] using hxo
      clear hxo
      go_wp2
      go_ret
      refine ⟨?_, rfl⟩
      rw [← HO.out]
      rfl
set_option maxHeartbeats 400000 in
set_option maxRecDepth 100000 in
theorem refOf_zero (p : Option Addr) (c : Nat) (w : World) :
    Calls Tryd.prog 67 #[.slice p 0 c] w fun e w' => e = .returned (.int .u32 0) ∧ w = w' := by
  go_enter Tryd.func67, Tryd.ntmps67
  go_wp2
  refine wp_loop_rounds 1 ?_
  rw [rounds_succ]
  go_wp2
  go_ret
  exact ⟨rfl, rfl⟩
theorem refOf_any (p : Option Addr) (n c : Nat) (xs : List Int) (w : World) (h : BIn w p n xs) (hbig : n ≤ 140737488355328) :
    Calls Tryd.prog 67 #[.slice p n c] w fun e w' => e = .returned (.int .u32 (crc xs : Nat)) ∧ w = w' := by
  by_cases h0 : 0 < n
  · obtain ⟨b, o, rfl, hc⟩ := h.cells h0
    exact refOf_pos b o n c xs w h h0 hbig
  · obtain rfl : n = 0 := by omega
    obtain rfl : xs = [] := List.eq_nil_of_length_eq_zero h.len
    refine (refOf_zero p c w).mono ?_
    rintro e w' ⟨rfl, hw⟩
    exact ⟨rfl, hw⟩
end Go.Proofs.YtpenddnmmfpdjaaDoor
