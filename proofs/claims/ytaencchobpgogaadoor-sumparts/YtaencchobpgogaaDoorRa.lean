/-
  The document's answers, first part: Push, matrix.of.
-/
import Derived.Test.YtaencchobpgogaaDoorSb
import Derived.Test.YtaencchobpgogaaDoorBa
namespace Go.Proofs.YtaencchobpgogaaDoor
open Go.RowKit

theorem hn_next (k y : Nat) : hn (k + 1) y = hv (hn k y) := by rw [hn_add k 1]; rfl

set_option maxHeartbeats 400000 in
theorem refPush_any (x : Nat) (c : Int) (hx : x < 4294967296) (hc0 : 0 ≤ c) (hc1 : c < 256) (w : World) :
    Calls Tryd.prog 22 #[.int .u32 x, .int .u8 c] w fun e w' => e = .returned (.int .u32 (hn 8 (x ^^^ c.toNat) : Nat)) ∧ w = w' := by
  obtain ⟨y, hy⟩ : ∃ y, y = x ^^^ c.toNat := ⟨_, rfl⟩
  have hyl : y < 4294967296 := by rw [hy]; exact xor_lt _ _ hx (by omega)
  have h1 : bits .xor .u32 (x : Int) c = (y : Int) := by
    rw [hy, ← u32_xor_nat x c.toNat hx (by omega)]
    congr 1
    omega
  rw [← hy]
  clear hy
  go_enter Tryd.func22, Tryd.ntmps22
  go_wp2
  go_loop [0, 5] (fun v i => ∃ k : Nat, k ≤ 8 ∧ i = .int .i64 k ∧ v = .int .u32 (hn k y : Nat)) (fun _ i => 8 - (intOf i).toNat)
  case atStart => exact ⟨0, by omega, rfl, rfl⟩
  case round =>
    obtain ⟨k, hk, rfl, rfl⟩ := hrel
    by_cases hlt : k < 8
    · have hl := hn_lt k y hyl
      have HN : Hid (hn (k + 1) y = hv (hn k y)) := hn_next k y
      obtain ⟨z, hz⟩ : ∃ z, z = hn k y := ⟨_, rfl⟩
      rw [← hz] at HN hl ⊢
      clear hz
      by_cases hodd : z % 2 = 1
      · have hx2 := u32_xor_nat (z / 2) 3988292384 (by omega) (by omega)
        have HV : Hid (hv z = z / 2 ^^^ 3988292384) := by show _ = _; unfold hv; rw [if_pos hodd]
        have ho' : (z : Int) % 2 = 1 := by omega
        have hx3 : bits .xor .u32 ((z : Int) / 2) 3988292384 = ((z / 2 ^^^ 3988292384 : Nat) : Int) := hx2
        clear hx2
        go_wp2
        go_round
        case rel => exact ⟨k + 1, by omega, by go_num, by rw [HN.out, HV.out]⟩
        case measure => simp [intOf]; omega
      · have HV : Hid (hv z = z / 2) := by show _ = _; unfold hv; rw [if_neg hodd, Nat.xor_zero]
        have ho' : ¬ (z : Int) % 2 = 1 := by omega
        go_wp2
        go_round
        case rel => exact ⟨k + 1, by omega, by go_num, by rw [HN.out, HV.out]; rfl⟩
        case measure => simp [intOf]; omega
    · obtain rfl : k = 8 := by omega
      go_wp2
      go_ret
      exact ⟨rfl, rfl⟩

/-- the matrix of so many halvings: what becomes of each bit by itself -/
def mat (k : Nat) : List Value := (List.range 32).map fun i => .int .u32 ((hn k (2 ^ i) : Nat) : Int)
theorem mat_length (k : Nat) : (mat k).length = 32 := by simp [mat]
theorem mat_get (k i : Nat) (h : i < 32) : (mat k)[i]? = some (.int .u32 ((hn k (2 ^ i) : Nat) : Int)) := by simp [mat, h]

theorem bit_lt (i : Nat) (h : i < 32) : 2 ^ i < 4294967296 := Nat.lt_of_le_of_lt (Nat.pow_le_pow_right (by omega) (show i ≤ 31 by omega)) (by decide)

theorem alloc_mat (w : World) (k t i : Nat) (h : i < 32) : (w.alloc (.cells (mat k).toArray t)).cell? ⟨w.heap.size, i, none⟩ = some (.int .u32 ((hn k (2 ^ i) : Nat) : Int)) := by
  rw [cell_of_row _ w.heap.size i (mat k).toArray t (0, 0) (heap_alloc_new w _)]
  simp [mat, h]

set_option maxHeartbeats 400000 in
theorem of_any (k x : Nat) (hx : x < 4294967296) (w : World) :
    Calls Tryd.prog 25 #[.agg (mat k).toArray, .int .u32 x] w fun e w' => e = .returned (.int .u32 (hn k x : Nat)) ∧ Below w.heap.size w w' := by
  have HB : Hid (Below w.heap.size w (w.alloc (.cells (mat k).toArray 52))) := (Below.refl _ w).alloc (Nat.le_refl _) _
  have HC : Hid (∀ i, i < 32 → (w.alloc (.cells (mat k).toArray 52)).cell? ⟨w.heap.size, i, none⟩ = some (.int .u32 ((hn k (2 ^ i) : Nat) : Int))) := fun i hi => alloc_mat w k 52 i hi
  go_enter Tryd.func25, Tryd.ntmps25
  go_wp2
  obtain ⟨W, hW⟩ : ∃ W, W = w.alloc (.cells (mat k).toArray 52) := ⟨_, rfl⟩
  rw [← hW] at HB HC ⊢
  clear hW
  go_loop [5, 6] (fun v i => ∃ j : Nat, j ≤ 32 ∧ i = .int .i64 j ∧ v = .int .u32 (hn k (x % 2 ^ j) : Nat)) (fun _ i => 32 - (intOf i).toNat)
  case atStart => exact ⟨0, by omega, rfl, by rw [Nat.pow_zero, Nat.mod_one, hn_zero]; rfl⟩
  case round =>
    obtain ⟨j, hj, rfl, rfl⟩ := hrel
    by_cases hlt : j < 32
    · have hl := hn_lt k (x % 2 ^ j) (Nat.lt_of_le_of_lt (Nat.mod_le _ _) hx)
      have hc := HC.out j hlt
      have hb := hn_lt k (2 ^ j) (bit_lt j hlt)
      have hd : x / 2 ^ j < 4294967296 := Nat.lt_of_le_of_lt (Nat.div_le_self _ _) hx
      have hand : bits .and .u32 ((x : Int) / 2 ^ j) 1 = ((x / 2 ^ j % 2 : Nat) : Int) := by
        have := u32_and_nat (x / 2 ^ j) 1 hd (by omega)
        rw [nat_mask1] at this
        rw [← this]
        simp
      have HL : Hid (hn k (x % 2 ^ (j + 1)) = hn k (x % 2 ^ j) ^^^ (if x / 2 ^ j % 2 = 1 then hn k (2 ^ j) else 0)) := by
        show _ = _
        rw [low_step, hn_xor]
        congr 1
        split
        · rfl
        · exact hn_zero k
      obtain ⟨y, hy⟩ : ∃ y, y = hn k (x % 2 ^ j) := ⟨_, rfl⟩
      obtain ⟨b, hb'⟩ : ∃ b, b = hn k (2 ^ j) := ⟨_, rfl⟩
      rw [← hy] at HL hl ⊢
      rw [← hb'] at HL hc hb
      clear hy hb'
      have hxo := u32_xor_nat y b hl hb
      by_cases hbit : x / 2 ^ j % 2 = 1
      · have hbit' : ((x / 2 ^ j % 2 : Nat) : Int) = 1 := by rw [hbit]; rfl
        rw [hbit'] at hand
        have HM : Hid (hn k (x % 2 ^ (j + 1)) = y ^^^ b) := by have := HL.out; rw [if_pos hbit] at this; exact this
        clear HL hbit hbit'
        go_wp2
        go_round
        case rel => exact ⟨j + 1, by omega, by go_num, by rw [HM.out]⟩
        case measure => simp [intOf]; omega
      · have hbit' : ((x / 2 ^ j % 2 : Nat) : Int) = 0 := by omega
        rw [hbit'] at hand
        have HM : Hid (hn k (x % 2 ^ (j + 1)) = y) := by have := HL.out; rw [if_neg hbit, Nat.xor_zero] at this; exact this
        clear HL hbit hbit'
        go_wp2
        go_round
        case rel => exact ⟨j + 1, by omega, by go_num, by rw [HM.out]⟩
        case measure => simp [intOf]; omega
    · obtain rfl : j = 32 := by omega
      have HE : Hid (x % 2 ^ 32 = x) := Nat.mod_eq_of_lt hx
      go_wp2
      go_ret
      refine ⟨?_, HB.out⟩
      rw [HE.out]
      rfl
end Go.Proofs.YtaencchobpgogaaDoor
