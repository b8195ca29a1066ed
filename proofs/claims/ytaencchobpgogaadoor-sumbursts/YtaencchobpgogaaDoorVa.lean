/-
  The mathematics of SumBursts.
-/
import Derived.Test.YtaencchobpgogaaDoorUa
namespace Go.Proofs.YtaencchobpgogaaDoor
open Go.RowKit

/-- a sum's four bytes -/
def four4 (s : Nat) : List Int := [((s % 256 : Nat) : Int), ((s / 256 % 256 : Nat) : Int), ((s / 65536 % 256 : Nat) : Int), ((s / 16777216 % 256 : Nat) : Int)]
theorem four4_bytes (s : Nat) : Bytes (four4 s) := by
  intro x hx
  simp only [four4, List.mem_cons, List.not_mem_nil, or_false] at hx
  rcases hx with rfl | rfl | rfl | rfl <;> omega
theorem four4_word (s : Nat) (h : s < 4294967296) : word (s % 256) (s / 256 % 256) (s / 65536 % 256) (s / 16777216 % 256) = s := by
  unfold word; omega
theorem crc_residue (X : List Int) (hX : Bytes X) : crc (X ++ four4 (crc X)) = 558161692 := by
  have hl := crc_lt X hX
  have e := st_four (st 4294967295 X) ((crc X % 256 : Nat) : Int) ((crc X / 256 % 256 : Nat) : Int) ((crc X / 65536 % 256 : Nat) : Int) ((crc X / 16777216 % 256 : Nat) : Int)
    (by rw [Int.toNat_natCast]; omega) (by rw [Int.toNat_natCast]; omega) (by rw [Int.toNat_natCast]; omega) []
  simp only [Int.toNat_natCast, four4_word _ hl] at e
  have e2 : st 4294967295 (X ++ four4 (crc X)) = hn 32 4294967295 := by
    rw [st_append]
    show st _ [_, _, _, _] = _
    rw [e, crc_st X, Nat.xor_assoc, Nat.xor_self, Nat.xor_zero]
    rfl
  unfold crc at *
  rw [e2]
  exact residue_num

/-- what the first i turned bytes have made of the sum -/
def acc (t L i : Nat) : Nat := hn (8 * (L - i)) (hn (8 * i) (t % 2 ^ (8 * i)))
theorem acc_zero (t L : Nat) : acc t L 0 = 0 := by
  unfold acc
  rw [Nat.mul_zero, Nat.pow_zero, Nat.mod_one, hn_zero, hn_zero]
theorem acc_step (t L i : Nat) (h : i < L) : acc t L (i + 1) = acc t L i ^^^ hn (8 * (L - 1 - i)) (hn 8 (t / 2 ^ (8 * i) % 256)) := by
  unfold acc
  have e1 : t % 2 ^ (8 * (i + 1)) = (t % 2 ^ (8 * i)) ^^^ (2 ^ (8 * i) * (t / 2 ^ (8 * i) % 256)) := by
    have h := split_xor (8 * i) (t % 2 ^ (8 * (i + 1)))
    have a1 : t % 2 ^ (8 * (i + 1)) % 2 ^ (8 * i) = t % 2 ^ (8 * i) := Nat.mod_mod_of_dvd t (Nat.pow_dvd_pow 2 (by omega))
    have a2 : t % 2 ^ (8 * (i + 1)) / 2 ^ (8 * i) = t / 2 ^ (8 * i) % 256 := by
      rw [show 8 * (i + 1) = 8 * i + 8 by omega, Nat.pow_add, Nat.mod_mul_right_div_self]
    rw [a1, a2, Nat.xor_comm] at h
    exact h.symm
  rw [e1, hn_xor, hn_xor]
  congr 1
  · rw [← hn_add, ← hn_add]
    congr 1
    omega
  · rw [show 8 * (i + 1) = 8 * i + 8 by omega, hn_add, hn_pow]
    congr 2
    omega
theorem acc_four (t L : Nat) (ht : t < 4294967296) : acc t L 4 = 0 ↔ t = 0 := by
  unfold acc
  rw [show t % 2 ^ (8 * 4) = t from Nat.mod_eq_of_lt ht]
  constructor
  · intro h
    exact hn_ne _ _ ht (hn_ne _ _ (hn_lt _ _ ht) h)
  · rintro rfl
    rw [hn_zero, hn_zero]
theorem acc_lt (t L i : Nat) (ht : t < 4294967296) : acc t L i < 4294967296 := hn_lt _ _ (hn_lt _ _ (Nat.lt_of_le_of_lt (Nat.mod_le _ _) ht))
theorem xor_same (a b : Nat) : a ^^^ b = a ↔ b = 0 := by
  constructor
  · intro h
    have : a ^^^ (a ^^^ b) = 0 := by rw [h, Nat.xor_self]
    rwa [← Nat.xor_assoc, Nat.xor_self, Nat.zero_xor] at this
  · rintro rfl
    exact Nat.xor_zero a

theorem place1 (A : Int) (m : Nat) : ∃ (r : Int) (i : Nat), A.tmod ((m : Int) + 4 - 3) = r ∧ -((m : Int) + 4 - 3) < r ∧ r < (m : Int) + 4 - 3 ∧ (r + ((m : Int) + 4 - 3)).tmod ((m : Int) + 4 - 3) = (i : Int) ∧ (r + ((m : Int) + 4 - 3)) % ((m : Int) + 4 - 3) = (i : Int) ∧ i ≤ m := by
  obtain ⟨r, i, h1, h2, h3, h4, h5, h6⟩ := place A (m + 1) (by omega)
  have e : ((m : Int) + 4 - 3) = ((m + 1 : Nat) : Int) := by omega
  rw [e]
  exact ⟨r, i, h1, h2, h3, h4, h5, by omega⟩
end Go.Proofs.YtaencchobpgogaaDoor
