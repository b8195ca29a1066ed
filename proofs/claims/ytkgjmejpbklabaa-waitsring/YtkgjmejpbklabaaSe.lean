/-
  Layer 15, the library's sort at []uint64: breakPatterns, reverseRange.
-/
import Derived.Test.YtkgjmejpbklabaaSa
import Derived.Test.YtkgjmejpbklabaaSh
import Derived.BigRegion
import Derived.Sort.LotD5
import Derived.Laws.Bits64b
namespace Go.Proofs.Ytkgjmejpbklabaa
open Go.RowKit

open Go.Sort

theorem pow_is (n : Nat) (hn : n < 4611686018427387904) (w : World) : Calls Try.prog 73 #[.int .i64 n] w fun e w' => e = .returned (.int .u64 ((1 <<< bitsLen n : Nat) : Int)) ∧ w' = w :=
  calls_of_every_depth fun D => AnyS.nextPowerOfTwoIn { B.lays189 with } D n hn w
theorem next_is (sb o X : Nat) (hX : X < 18446744073709551616) (w : World) (hc : w.cell? ⟨sb, o, none⟩ = some (.int .u64 X)) (hf : w.frozen? ⟨sb, o, none⟩ = false) :
    Calls Try.prog 74 #[.pointer (some ⟨sb, o, none⟩)] w fun e w' => e = .returned (.int .u64 (xorNextN X : Nat)) ∧ w' = (w.setCell ⟨sb, o, none⟩ (.int .u64 (xorNextN X : Nat))).drewN 3 :=
  calls_of_every_depth fun D => AnyS.xorshift_NextIn { B.lays189 with } D sb o X hX w hc hf

/-- the generator's number in a block of its own -/
def Xb (sb R : Nat) (w : World) : Prop := w.heap[sb]? = some (.cells #[.int .u64 (R : Int)] 109 (0, 0))
theorem Xb.cell {sb s : Nat} {w : World} (h : Xb sb s w) : w.cell? ⟨sb, 0, none⟩ = some (.int .u64 (s : Int)) := by simp [World.cell?, show w.heap[sb]? = _ from h]
theorem Xb.frz {sb s : Nat} {w : World} (h : Xb sb s w) : w.frozen? ⟨sb, 0, none⟩ = false := by simp [World.frozen?, show w.heap[sb]? = _ from h]
theorem Xb.put {sb s : Nat} {w : World} (h : Xb sb s w) (s' : Nat) : Xb sb s' (w.setCell ⟨sb, 0, none⟩ (.int .u64 (s' : Int))) := by
  unfold Xb at h ⊢
  simp [World.setCell, Array.getElem?_modify, h]
theorem Xb.other {sb s b o : Nat} {v : Value} {w : World} (h : Xb sb s w) (hne : sb ≠ b) : Xb sb s (w.setCell ⟨b, o, none⟩ v) := by
  unfold Xb at h ⊢
  rw [RowKit.Below.heap_setCell _ _ _ _ hne]; exact h
theorem Xb.new (w : World) (s : Nat) : Xb w.heap.size s (w.alloc (Obj.cells #[Value.int .u64 (s : Int)] 109)) := by
  unfold Xb World.alloc
  rw [Array.getElem?_push_size]

/-- so many rounds are left, t are done -/
def bst (a l M i0 : Nat) : Nat → Nat → UInt64 × Array Int → Array Int
  | 0, _, st => st.2
  | k + 1, t, st => bst a l M i0 k (t + 1) (breakStep a l M st (i0 + t))
theorem bp_is {d : Array Int} {a b : Nat} (h : b - a ≥ 8) : breakPatterns d a b = bst a (b - a) (1 <<< bitsLen (b - a)) (a + (b - a) / 4 * 2 - 1) 3 0 (UInt64.ofNat (b - a), d) := by
  unfold breakPatterns
  simp only [if_pos h]
  rfl
theorem step_size {a l M i : Nat} {st : UInt64 × Array Int} : (breakStep a l M st i).2.size = st.2.size := by simp [breakStep, size_swp]
theorem bst_go {a l M i0 t : Nat} {r : UInt64} {D : Array Int} {o : Nat} (hk : t < 3) (ho : o = (let x := (xorNext r).toNat &&& (M - 1); if x ≥ l then x - l else x)) :
    bst a l M i0 (3 - t) t (r, D) = bst a l M i0 (3 - (t + 1)) (t + 1) (xorNext r, swp D (i0 + t) (a + o)) := by
  obtain ⟨k, hk⟩ : ∃ k, 3 - t = k + 1 := ⟨2 - t, by omega⟩
  rw [hk, show 3 - (t + 1) = k by omega, ho]
  rfl

set_option maxHeartbeats 2000000 in
set_option maxRecDepth 100000 in
theorem break_at {blk off cap n a b : Nat} {d : Array Int} {w : World} (hN : d.size = n) (hH : Holds uE w blk off d) (hk : blk < w.heap.size) (hab : a + 8 ≤ b) (hb : b ≤ n) (hz : n < 2305843009213693952) :
    Calls Try.prog 51 #[.slice (some ⟨blk, off, none⟩) n cap, .int .i64 a, .int .i64 b] w fun e w' => e = .returned (.tuple #[]) ∧ SR blk off w (breakPatterns d a b) w' := by
  obtain ⟨l, hl⟩ : ∃ l, l = b - a := ⟨_, rfl⟩
  have hl8 : 8 ≤ l := by omega
  have hlb : a + l = b := by omega
  obtain ⟨M, hM⟩ : ∃ M : Nat, M = 1 <<< bitsLen l := ⟨_, rfl⟩
  have hM1 : 1 ≤ M := by rw [hM, Nat.one_shiftLeft]; exact Nat.two_pow_pos _
  have hM2 : M ≤ 2 * l := by rw [hM, Nat.one_shiftLeft]; exact two_pow_bitsLen_le (by omega)
  obtain ⟨i0, hi0⟩ : ∃ i0, i0 = a + l / 4 * 2 - 1 := ⟨_, rfl⟩
  have HE : Hid (breakPatterns d a b = bst a l M i0 3 0 (UInt64.ofNat l, d)) := by
    show _ = _
    rw [bp_is (by omega), ← hl, ← hM, ← hi0]
  generalize breakPatterns d a b = BP at HE ⊢
  have HP : Hid (∀ w, Calls Try.prog 73 #[.int .i64 l] w fun e w' => e = .returned (.int .u64 (M : Int)) ∧ w' = w) := fun w => by rw [hM]; exact pow_is l (by omega) w
  have hi1 : a ≤ i0 ∧ i0 + 3 ≤ b := by omega
  have hi2 : (a : Int) + ((l : Int)) / 4 * 2 - 1 = (i0 : Int) := by omega
  have HI : Hid ((a : Int) + ((l : Int)) / 4 * 2 - 1 = (i0 : Int)) := hi2
  have HI3 : Hid ((a : Int) + ((l : Int)) / 4 * 2 + 1 = ((i0 + 2 : Nat) : Int)) := by show _ = _; omega
  have HL : Hid ((b : Int) - (a : Int) = (l : Int)) := by show _ = _; omega
  clear hM hi0 hl hi2
  have HS0 : Hid (SR blk off w d (w.alloc (Obj.cells #[Value.int .u64 (l : Int)] 109))) := (SR.self hH).alloc _
  have HX0 : Hid (Xb w.heap.size (UInt64.ofNat l).toNat (w.alloc (Obj.cells #[Value.int .u64 (l : Int)] 109))) := by
    rw [show (UInt64.ofNat l).toNat = l by simp; omega]; exact Xb.new w l
  go_enter Try.func51, Try.ntmps51
  have h8I : 8 ≤ (b : Int) - (a : Int) := by have := HL.out; omega
  go_wp2_with fail
  rw [HL.out]
  generalize w.alloc (Obj.cells #[Value.int .u64 (l : Int)] 109) = W1 at HS0 HX0 ⊢
  refine (HP.out _).mono ?_
  rintro e W1' ⟨rfl, hW⟩
  subst hW
  clear h8I
  go_wp2_with fail
  rw [HI.out]
  go_loopw [9] (fun v W => ∃ (J t : Nat) (r : UInt64) (D : Array Int), v = .int .i64 (J : Int) ∧ Hid (J = i0 + t) ∧ t ≤ 3 ∧ D.size = n ∧ Hid (SR blk off w D W) ∧ Hid (Xb w.heap.size r.toNat W) ∧ Hid (bst a l M i0 (3 - t) t (r, D) = bst a l M i0 3 0 (UInt64.ofNat l, d))) (fun v _ => i0 + 3 - (intV v).toNat)
  case atStart => exact ⟨i0, 0, UInt64.ofNat l, d, rfl, rfl, by omega, hN, HS0, HX0, rfl⟩
  case round =>
    obtain ⟨J, t, r, D, rfl, HJ, ht, hs, HS, HX, HO⟩ := hrel
    have hcx := HX.out.cell
    have hfx := HX.out.frz
    obtain ⟨R, hR⟩ : ∃ R : Nat, R = (xorNext r).toNat := ⟨_, rfl⟩
    have lR : R < 18446744073709551616 := by rw [hR]; exact (xorNext r).toNat_lt
    have HC : Hid (Calls Try.prog 74 #[.pointer (some ⟨w.heap.size, 0, none⟩)] wr fun e w' => e = .returned (.int .u64 (R : Int)) ∧ w' = (wr.setCell ⟨w.heap.size, 0, none⟩ (.int .u64 (R : Int))).drewN 3) := by
      have := next_is w.heap.size 0 r.toNat r.toNat_lt wr hcx hfx
      rw [← xorNext_toNat, ← hR] at this
      exact this
    clear hcx hfx
    obtain ⟨O, hO⟩ : ∃ O : Nat, O = R &&& (M - 1) := ⟨_, rfl⟩
    have lO : O ≤ M - 1 := by rw [hO]; exact Nat.and_le_right
    have eAnd : bits .and .u64 (R : Int) ((M : Int) - 1) = (O : Int) := by
      rw [show ((M : Int) - 1) = ((M - 1 : Nat) : Int) by omega, bits_and_u64_nat _ _ lR (by omega), hO]
    have HOO : Hid (O = (xorNext r).toNat &&& (M - 1)) := by show _ = _; rw [hO, hR]
    have HS1 : Hid (SR blk off w D ((wr.setCell ⟨w.heap.size, 0, none⟩ (.int .u64 (R : Int))).drewN 3)) := (HS.out.put (Nat.le_refl _) _).draws 3
    have HX1 : Hid (Xb w.heap.size (xorNext r).toNat ((wr.setCell ⟨w.heap.size, 0, none⟩ (.int .u64 (R : Int))).drewN 3)) := by rw [← hR]; exact HX.out.put R
    clear hO hR HX
    by_cases ht3 : t = 3
    · subst ht3
      have hend : ¬ (J : Int) ≤ (a : Int) + (l : Int) / 4 * 2 + 1 := by have := HI3.out; have := HJ.out; omega
      go_wp2_with fail
      go_end0
      exact ⟨rfl, by rw [HE.out, ← HO.out]; exact HS.out⟩
    · have hgo : (J : Int) ≤ (a : Int) + (l : Int) / 4 * 2 + 1 := by have := HI3.out; have := HJ.out; omega
      have hJn : J < n := by have := HJ.out; omega
      have hJ2 : J < i0 + 3 := by have := HJ.out; omega
      go_wp2_with fail
      refine HC.out.mono ?_
      rintro e W2 ⟨rfl, hW⟩
      rw [← hW] at HS1 HX1
      clear hW HC
      obtain ⟨G, HG⟩ : ∃ G : Nat → Int, Hid (∀ t, G t = D[t]!) := ⟨fun t => D[t]!, fun _ => rfl⟩
      have hcw : ∀ t, t < n → W2.cell? ⟨blk, off + t, none⟩ = some (.int .u64 (G t)) := fun t ht => by rw [HG.out]; exact HS1.out.cell hH hk (by omega) t (by omega)
      have hfw : ∀ t, t < n → W2.frozen? ⟨blk, off + t, none⟩ = false := fun t ht => HS1.out.frz hH hk t (by omega)
      by_cases hOl : l ≤ O
      · obtain ⟨p, hp⟩ : ∃ p, p = O - l := ⟨_, rfl⟩
        have HP2 : Hid (p = (let x := (xorNext r).toNat &&& (M - 1); if x ≥ l then x - l else x)) := by
          show _ = _
          rw [← HOO.out]; simp only [ge_iff_le, if_pos hOl]; exact hp
        go_wp2_with fail
        rw [show (O : Int) - (l : Int) = (p : Int) by omega]
        have hpl : p < l := by omega
        clear hp
        have hpB : a + p < n := by omega
        have hpI : (a : Int) + (p : Int) < (n : Int) := by omega
        have HSG : Hid (bst a l M i0 (3 - (t + 1)) (t + 1) (xorNext r, swp D J (a + p)) = bst a l M i0 3 0 (UInt64.ofNat l, d)) := by
          show _ = _
          rw [← HO.out, bst_go (by omega) HP2.out, HJ.out]
        by_cases hEq : J = a + p
        · have HW : Hid (SR blk off w (swp D J (a + p)) ((W2.setCell ⟨blk, off + J, none⟩ (.int .u64 (G (a + p)))).setCell ⟨blk, off + (a + p), none⟩ (.int .u64 (G J))).drew) := HS1.out.swapD HG.out J (a + p) (by omega) (by omega)
          have HX2 : Hid (Xb w.heap.size (xorNext r).toNat ((W2.setCell ⟨blk, off + J, none⟩ (.int .u64 (G (a + p)))).setCell ⟨blk, off + (a + p), none⟩ (.int .u64 (G J))).drew) := (HX1.out.other (by omega)).other (by omega)
          obtain ⟨P, hP⟩ : ∃ P, P = a + p := ⟨_, rfl⟩
          rw [← hP] at hEq HW HX2 HSG hpB
          rw [show (a : Int) + (p : Int) = (P : Int) by omega] at hpI
          subst hEq
          have hPI : (a : Int) + (p : Int) = (J : Int) := by omega
          have hPN : a + p = J := hP.symm
          clear hP
          go_region
          all_goals go_wp2_with fail
          go_roundw
          case rel =>
            exact ⟨J + 1, t + 1, xorNext r, swp D J J, rfl, by show _ = _; have := HJ.out; omega, by omega, by rw [size_swp]; exact hs, HW, HX2, HSG.out⟩
          case measure => simp [intV]; omega
        · go_region
          have HW : Hid (SR blk off w (swp D J (a + p)) ((W2.setCell ⟨blk, off + J, none⟩ (.int .u64 (G (a + p)))).setCell ⟨blk, off + (a + p), none⟩ (.int .u64 (G J))).drew) := HS1.out.swapD HG.out J (a + p) (by omega) (by omega)
          have HX2 : Hid (Xb w.heap.size (xorNext r).toNat ((W2.setCell ⟨blk, off + J, none⟩ (.int .u64 (G (a + p)))).setCell ⟨blk, off + (a + p), none⟩ (.int .u64 (G J))).drew) := (HX1.out.other (by omega)).other (by omega)
          all_goals go_wp2_with fail
          go_roundw
          case rel => exact ⟨J + 1, t + 1, xorNext r, swp D J (a + p), rfl, by show _ = _; have := HJ.out; omega, by omega, by rw [size_swp]; exact hs, HW, HX2, HSG.out⟩
          case measure => simp [intV]; omega
      · obtain ⟨p, hp⟩ : ∃ p, p = O := ⟨_, rfl⟩
        have HP2 : Hid (p = (let x := (xorNext r).toNat &&& (M - 1); if x ≥ l then x - l else x)) := by
          show _ = _
          rw [← HOO.out]; simp only [ge_iff_le, if_neg hOl]; exact hp
        have hpl : p < l := by omega
        go_wp2_with fail
        subst hp
        have hpB : a + p < n := by omega
        have hpI : (a : Int) + (p : Int) < (n : Int) := by omega
        have HSG : Hid (bst a l M i0 (3 - (t + 1)) (t + 1) (xorNext r, swp D J (a + p)) = bst a l M i0 3 0 (UInt64.ofNat l, d)) := by
          show _ = _
          rw [← HO.out, bst_go (by omega) HP2.out, HJ.out]
        by_cases hEq : J = a + p
        · have HW : Hid (SR blk off w (swp D J (a + p)) ((W2.setCell ⟨blk, off + J, none⟩ (.int .u64 (G (a + p)))).setCell ⟨blk, off + (a + p), none⟩ (.int .u64 (G J))).drew) := HS1.out.swapD HG.out J (a + p) (by omega) (by omega)
          have HX2 : Hid (Xb w.heap.size (xorNext r).toNat ((W2.setCell ⟨blk, off + J, none⟩ (.int .u64 (G (a + p)))).setCell ⟨blk, off + (a + p), none⟩ (.int .u64 (G J))).drew) := (HX1.out.other (by omega)).other (by omega)
          obtain ⟨P, hP⟩ : ∃ P, P = a + p := ⟨_, rfl⟩
          rw [← hP] at hEq HW HX2 HSG hpB
          rw [show (a : Int) + (p : Int) = (P : Int) by omega] at hpI
          subst hEq
          have hPI : (a : Int) + (p : Int) = (J : Int) := by omega
          have hPN : a + p = J := hP.symm
          clear hP
          go_region
          all_goals go_wp2_with fail
          go_roundw
          case rel =>
            exact ⟨J + 1, t + 1, xorNext r, swp D J J, rfl, by show _ = _; have := HJ.out; omega, by omega, by rw [size_swp]; exact hs, HW, HX2, HSG.out⟩
          case measure => simp [intV]; omega
        · go_region
          have HW : Hid (SR blk off w (swp D J (a + p)) ((W2.setCell ⟨blk, off + J, none⟩ (.int .u64 (G (a + p)))).setCell ⟨blk, off + (a + p), none⟩ (.int .u64 (G J))).drew) := HS1.out.swapD HG.out J (a + p) (by omega) (by omega)
          have HX2 : Hid (Xb w.heap.size (xorNext r).toNat ((W2.setCell ⟨blk, off + J, none⟩ (.int .u64 (G (a + p)))).setCell ⟨blk, off + (a + p), none⟩ (.int .u64 (G J))).drew) := (HX1.out.other (by omega)).other (by omega)
          all_goals go_wp2_with fail
          go_roundw
          case rel => exact ⟨J + 1, t + 1, xorNext r, swp D J (a + p), rfl, by show _ = _; have := HJ.out; omega, by omega, by rw [size_swp]; exact hs, HW, HX2, HSG.out⟩
          case measure => simp [intV]; omega
end Go.Proofs.Ytkgjmejpbklabaa
