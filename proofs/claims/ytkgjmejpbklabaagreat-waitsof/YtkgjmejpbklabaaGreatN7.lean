/-
  Layer 15, the library's sort at []uint64: breakPatterns, reverseRange. Layer 15, the library's sort at []uint64: reverseRange, and the two scans of the partitions. Layer 15, the library's sort at []uint64: partition.
-/
import Derived.Test.YtkgjmejpbklabaaGreatN6
import Derived.Test.YtkgjmejpbklabaaGreatSh
import Derived.BigRegion
import Derived.Sort.LotD5
import Derived.Laws.Bits64b
import Derived.Deep.CutBlock
namespace Go.Proofs.YtkgjmejpbklabaaGreat
open Go.RowKit
open Go.Sort
theorem pow_is (n : Nat) (hn : n < 4611686018427387904) (w : World) : Calls Tryz.prog 125 #[.int .i64 n] w fun e w' => e = .returned (.int .u64 ((1 <<< bitsLen n : Nat) : Int)) ∧ w' = w :=
  calls_of_every_depth fun D => AnyS.nextPowerOfTwoIn { B.lays189 with } D n hn w
theorem next_is (sb o X : Nat) (hX : X < 18446744073709551616) (w : World) (hc : w.cell? ⟨sb, o, none⟩ = some (.int .u64 X)) (hf : w.frozen? ⟨sb, o, none⟩ = false) :
    Calls Tryz.prog 126 #[.pointer (some ⟨sb, o, none⟩)] w fun e w' => e = .returned (.int .u64 (xorNextN X : Nat)) ∧ w' = (w.setCell ⟨sb, o, none⟩ (.int .u64 (xorNextN X : Nat))).drewN 3 :=
  calls_of_every_depth fun D => AnyS.xorshift_NextIn { B.lays189 with } D sb o X hX w hc hf
/-- the generator's number in a block of its own -/
def Xb (sb R : Nat) (w : World) : Prop := w.heap[sb]? = some (.cells #[.int .u64 (R : Int)] 174 (0, 0))
theorem Xb.cell {sb s : Nat} {w : World} (h : Xb sb s w) : w.cell? ⟨sb, 0, none⟩ = some (.int .u64 (s : Int)) := by simp [World.cell?, show w.heap[sb]? = _ from h]
theorem Xb.frz {sb s : Nat} {w : World} (h : Xb sb s w) : w.frozen? ⟨sb, 0, none⟩ = false := by simp [World.frozen?, show w.heap[sb]? = _ from h]
theorem Xb.put {sb s : Nat} {w : World} (h : Xb sb s w) (s' : Nat) : Xb sb s' (w.setCell ⟨sb, 0, none⟩ (.int .u64 (s' : Int))) := by
  unfold Xb at h ⊢
  simp [World.setCell, Array.getElem?_modify, h]
theorem Xb.other {sb s b o : Nat} {v : Value} {w : World} (h : Xb sb s w) (hne : sb ≠ b) : Xb sb s (w.setCell ⟨b, o, none⟩ v) := by
  unfold Xb at h ⊢
  rw [RowKit.Below.heap_setCell _ _ _ _ hne]; exact h
theorem Xb.new (w : World) (s : Nat) : Xb w.heap.size s (w.alloc (Obj.cells #[Value.int .u64 (s : Int)] 174)) := by
  unfold Xb World.alloc
  rw [Array.getElem?_push_size]
/-- so many rounds are left, t are done -/
def bst (a l M i0 : Nat) : Nat → Nat → UInt64 × Array Int → Array Int
  | 0, _, st => st.2
  | k + 1, t, st => bst a l M i0 k (t + 1) (breakStep a l M st (i0 + t))
theorem bp_is {d : Array Int} {a b : Nat} (h : b - a ≥ 8) : breakPatterns d a b = bst a (b - a) (1 <<< bitsLen (b - a)) (a + (b - a) / 4 * 2 - 1) 3 0 (UInt64.ofNat (b - a), d) := by
  unfold breakPatterns
  simp only [if_pos h]
  rfl
theorem step_size {a l M i : Nat} {st : UInt64 × Array Int} : (breakStep a l M st i).2.size = st.2.size := by simp [breakStep, size_swp]
theorem bst_go {a l M i0 t : Nat} {r : UInt64} {D : Array Int} {o : Nat} (hk : t < 3) (ho : o = (let x := (xorNext r).toNat &&& (M - 1); if x ≥ l then x - l else x)) :
    bst a l M i0 (3 - t) t (r, D) = bst a l M i0 (3 - (t + 1)) (t + 1) (xorNext r, swp D (i0 + t) (a + o)) := by
  obtain ⟨k, hk⟩ : ∃ k, 3 - t = k + 1 := ⟨2 - t, by omega⟩
  rw [hk, show 3 - (t + 1) = k by omega, ho]
  rfl
set_option maxHeartbeats 2000000 in
set_option maxRecDepth 100000 in
theorem break_at {blk off cap n a b : Nat} {d : Array Int} {w : World} (hN : d.size = n) (hH : Holds uE w blk off d) (hk : blk < w.heap.size) (hab : a + 8 ≤ b) (hb : b ≤ n) (hz : n < 2305843009213693952) :
    Calls Tryz.prog 100 #[.slice (some ⟨blk, off, none⟩) n cap, .int .i64 a, .int .i64 b] w fun e w' => e = .returned (.tuple #[]) ∧ SR blk off w (breakPatterns d a b) w' := by
  obtain ⟨l, hl⟩ : ∃ l, l = b - a := ⟨_, rfl⟩
  have hl8 : 8 ≤ l := by omega
  have hlb : a + l = b := by omega
  obtain ⟨M, hM⟩ : ∃ M : Nat, M = 1 <<< bitsLen l := ⟨_, rfl⟩
  have hM1 : 1 ≤ M := by rw [hM, Nat.one_shiftLeft]; exact Nat.two_pow_pos _
  have hM2 : M ≤ 2 * l := by rw [hM, Nat.one_shiftLeft]; exact two_pow_bitsLen_le (by omega)
  obtain ⟨i0, hi0⟩ : ∃ i0, i0 = a + l / 4 * 2 - 1 := ⟨_, rfl⟩
  have HE : Hid (breakPatterns d a b = bst a l M i0 3 0 (UInt64.ofNat l, d)) := by
    show _ = _
    rw [bp_is (by omega), ← hl, ← hM, ← hi0]
  generalize breakPatterns d a b = BP at HE ⊢
  have HP : Hid (∀ w, Calls Tryz.prog 125 #[.int .i64 l] w fun e w' => e = .returned (.int .u64 (M : Int)) ∧ w' = w) := fun w => by rw [hM]; exact pow_is l (by omega) w
  have hi1 : a ≤ i0 ∧ i0 + 3 ≤ b := by omega
  have hi2 : (a : Int) + ((l : Int)) / 4 * 2 - 1 = (i0 : Int) := by omega
  have HI : Hid ((a : Int) + ((l : Int)) / 4 * 2 - 1 = (i0 : Int)) := hi2
  have HI3 : Hid ((a : Int) + ((l : Int)) / 4 * 2 + 1 = ((i0 + 2 : Nat) : Int)) := by show _ = _; omega
  have HL : Hid ((b : Int) - (a : Int) = (l : Int)) := by show _ = _; omega
  clear hM hi0 hl hi2
  have HS0 : Hid (SR blk off w d (w.alloc (Obj.cells #[Value.int .u64 (l : Int)] 174))) := (SR.self hH).alloc _
  have HX0 : Hid (Xb w.heap.size (UInt64.ofNat l).toNat (w.alloc (Obj.cells #[Value.int .u64 (l : Int)] 174))) := by
    rw [show (UInt64.ofNat l).toNat = l by simp; omega]; exact Xb.new w l
  go_enter Tryz.func100, Tryz.ntmps100
  have h8I : 8 ≤ (b : Int) - (a : Int) := by have := HL.out; omega
  go_wp2_with fail
  rw [HL.out]
  generalize w.alloc (Obj.cells #[Value.int .u64 (l : Int)] 174) = W1 at HS0 HX0 ⊢
  refine (HP.out _).mono ?_
  rintro e W1' ⟨rfl, hW⟩
  subst hW
  clear h8I
  go_wp2_with fail
  rw [HI.out]
  go_loopw [9] (fun v W => ∃ (J t : Nat) (r : UInt64) (D : Array Int), v = .int .i64 (J : Int) ∧ Hid (J = i0 + t) ∧ t ≤ 3 ∧ D.size = n ∧ Hid (SR blk off w D W) ∧ Hid (Xb w.heap.size r.toNat W) ∧ Hid (bst a l M i0 (3 - t) t (r, D) = bst a l M i0 3 0 (UInt64.ofNat l, d))) (fun v _ => i0 + 3 - (intV v).toNat)
  case atStart => exact ⟨i0, 0, UInt64.ofNat l, d, rfl, rfl, by omega, hN, HS0, HX0, rfl⟩
  case round =>
    obtain ⟨J, t, r, D, rfl, HJ, ht, hs, HS, HX, HO⟩ := hrel
    have hcx := HX.out.cell
    have hfx := HX.out.frz
    obtain ⟨R, hR⟩ : ∃ R : Nat, R = (xorNext r).toNat := ⟨_, rfl⟩
    have lR : R < 18446744073709551616 := by rw [hR]; exact (xorNext r).toNat_lt
    have HC : Hid (Calls Tryz.prog 126 #[.pointer (some ⟨w.heap.size, 0, none⟩)] wr fun e w' => e = .returned (.int .u64 (R : Int)) ∧ w' = (wr.setCell ⟨w.heap.size, 0, none⟩ (.int .u64 (R : Int))).drewN 3) := by
      have := next_is w.heap.size 0 r.toNat r.toNat_lt wr hcx hfx
      rw [← xorNext_toNat, ← hR] at this
      exact this
    clear hcx hfx
    obtain ⟨O, hO⟩ : ∃ O : Nat, O = R &&& (M - 1) := ⟨_, rfl⟩
    have lO : O ≤ M - 1 := by rw [hO]; exact Nat.and_le_right
    have eAnd : bits .and .u64 (R : Int) ((M : Int) - 1) = (O : Int) := by
      rw [show ((M : Int) - 1) = ((M - 1 : Nat) : Int) by omega, bits_and_u64_nat _ _ lR (by omega), hO]
    have HOO : Hid (O = (xorNext r).toNat &&& (M - 1)) := by show _ = _; rw [hO, hR]
    have HS1 : Hid (SR blk off w D ((wr.setCell ⟨w.heap.size, 0, none⟩ (.int .u64 (R : Int))).drewN 3)) := (HS.out.put (Nat.le_refl _) _).draws 3
    have HX1 : Hid (Xb w.heap.size (xorNext r).toNat ((wr.setCell ⟨w.heap.size, 0, none⟩ (.int .u64 (R : Int))).drewN 3)) := by rw [← hR]; exact HX.out.put R
    clear hO hR HX
    by_cases ht3 : t = 3
    · subst ht3
      have hend : ¬ (J : Int) ≤ (a : Int) + (l : Int) / 4 * 2 + 1 := by have := HI3.out; have := HJ.out; omega
      go_wp2_with fail
      go_end0
      exact ⟨rfl, by rw [HE.out, ← HO.out]; exact HS.out⟩
    · have hgo : (J : Int) ≤ (a : Int) + (l : Int) / 4 * 2 + 1 := by have := HI3.out; have := HJ.out; omega
      have hJn : J < n := by have := HJ.out; omega
      have hJ2 : J < i0 + 3 := by have := HJ.out; omega
      go_wp2_with fail
      refine HC.out.mono ?_
      rintro e W2 ⟨rfl, hW⟩
      rw [← hW] at HS1 HX1
      clear hW HC
      obtain ⟨G, HG⟩ : ∃ G : Nat → Int, Hid (∀ t, G t = D[t]!) := ⟨fun t => D[t]!, fun _ => rfl⟩
      have hcw : ∀ t, t < n → W2.cell? ⟨blk, off + t, none⟩ = some (.int .u64 (G t)) := fun t ht => by rw [HG.out]; exact HS1.out.cell hH hk (by omega) t (by omega)
      have hfw : ∀ t, t < n → W2.frozen? ⟨blk, off + t, none⟩ = false := fun t ht => HS1.out.frz hH hk t (by omega)
      by_cases hOl : l ≤ O
      · obtain ⟨p, hp⟩ : ∃ p, p = O - l := ⟨_, rfl⟩
        have HP2 : Hid (p = (let x := (xorNext r).toNat &&& (M - 1); if x ≥ l then x - l else x)) := by
          show _ = _
          rw [← HOO.out]; simp only [ge_iff_le, if_pos hOl]; exact hp
        go_wp2_with fail
        rw [show (O : Int) - (l : Int) = (p : Int) by omega]
        have hpl : p < l := by omega
        clear hp
        have hpB : a + p < n := by omega
        have hpI : (a : Int) + (p : Int) < (n : Int) := by omega
        have HSG : Hid (bst a l M i0 (3 - (t + 1)) (t + 1) (xorNext r, swp D J (a + p)) = bst a l M i0 3 0 (UInt64.ofNat l, d)) := by
          show _ = _
          rw [← HO.out, bst_go (by omega) HP2.out, HJ.out]
        by_cases hEq : J = a + p
        · have HW : Hid (SR blk off w (swp D J (a + p)) ((W2.setCell ⟨blk, off + J, none⟩ (.int .u64 (G (a + p)))).setCell ⟨blk, off + (a + p), none⟩ (.int .u64 (G J))).drew) := HS1.out.swapD HG.out J (a + p) (by omega) (by omega)
          have HX2 : Hid (Xb w.heap.size (xorNext r).toNat ((W2.setCell ⟨blk, off + J, none⟩ (.int .u64 (G (a + p)))).setCell ⟨blk, off + (a + p), none⟩ (.int .u64 (G J))).drew) := (HX1.out.other (by omega)).other (by omega)
          obtain ⟨P, hP⟩ : ∃ P, P = a + p := ⟨_, rfl⟩
          rw [← hP] at hEq HW HX2 HSG hpB
          rw [show (a : Int) + (p : Int) = (P : Int) by omega] at hpI
          subst hEq
          have hPI : (a : Int) + (p : Int) = (J : Int) := by omega
          have hPN : a + p = J := hP.symm
          clear hP
          go_region
          all_goals go_wp2_with fail
          go_roundw
          case rel =>
            exact ⟨J + 1, t + 1, xorNext r, swp D J J, rfl, by show _ = _; have := HJ.out; omega, by omega, by rw [size_swp]; exact hs, HW, HX2, HSG.out⟩
          case measure => simp [intV]; omega
        · go_region
          have HW : Hid (SR blk off w (swp D J (a + p)) ((W2.setCell ⟨blk, off + J, none⟩ (.int .u64 (G (a + p)))).setCell ⟨blk, off + (a + p), none⟩ (.int .u64 (G J))).drew) := HS1.out.swapD HG.out J (a + p) (by omega) (by omega)
          have HX2 : Hid (Xb w.heap.size (xorNext r).toNat ((W2.setCell ⟨blk, off + J, none⟩ (.int .u64 (G (a + p)))).setCell ⟨blk, off + (a + p), none⟩ (.int .u64 (G J))).drew) := (HX1.out.other (by omega)).other (by omega)
          all_goals go_wp2_with fail
          go_roundw
          case rel => exact ⟨J + 1, t + 1, xorNext r, swp D J (a + p), rfl, by show _ = _; have := HJ.out; omega, by omega, by rw [size_swp]; exact hs, HW, HX2, HSG.out⟩
          case measure => simp [intV]; omega
      · obtain ⟨p, hp⟩ : ∃ p, p = O := ⟨_, rfl⟩
        have HP2 : Hid (p = (let x := (xorNext r).toNat &&& (M - 1); if x ≥ l then x - l else x)) := by
          show _ = _
          rw [← HOO.out]; simp only [ge_iff_le, if_neg hOl]; exact hp
        have hpl : p < l := by omega
        go_wp2_with fail
        subst hp
        have hpB : a + p < n := by omega
        have hpI : (a : Int) + (p : Int) < (n : Int) := by omega
        have HSG : Hid (bst a l M i0 (3 - (t + 1)) (t + 1) (xorNext r, swp D J (a + p)) = bst a l M i0 3 0 (UInt64.ofNat l, d)) := by
          show _ = _
          rw [← HO.out, bst_go (by omega) HP2.out, HJ.out]
        by_cases hEq : J = a + p
        · have HW : Hid (SR blk off w (swp D J (a + p)) ((W2.setCell ⟨blk, off + J, none⟩ (.int .u64 (G (a + p)))).setCell ⟨blk, off + (a + p), none⟩ (.int .u64 (G J))).drew) := HS1.out.swapD HG.out J (a + p) (by omega) (by omega)
          have HX2 : Hid (Xb w.heap.size (xorNext r).toNat ((W2.setCell ⟨blk, off + J, none⟩ (.int .u64 (G (a + p)))).setCell ⟨blk, off + (a + p), none⟩ (.int .u64 (G J))).drew) := (HX1.out.other (by omega)).other (by omega)
          obtain ⟨P, hP⟩ : ∃ P, P = a + p := ⟨_, rfl⟩
          rw [← hP] at hEq HW HX2 HSG hpB
          rw [show (a : Int) + (p : Int) = (P : Int) by omega] at hpI
          subst hEq
          have hPI : (a : Int) + (p : Int) = (J : Int) := by omega
          have hPN : a + p = J := hP.symm
          clear hP
          go_region
          all_goals go_wp2_with fail
          go_roundw
          case rel =>
            exact ⟨J + 1, t + 1, xorNext r, swp D J J, rfl, by show _ = _; have := HJ.out; omega, by omega, by rw [size_swp]; exact hs, HW, HX2, HSG.out⟩
          case measure => simp [intV]; omega
        · go_region
          have HW : Hid (SR blk off w (swp D J (a + p)) ((W2.setCell ⟨blk, off + J, none⟩ (.int .u64 (G (a + p)))).setCell ⟨blk, off + (a + p), none⟩ (.int .u64 (G J))).drew) := HS1.out.swapD HG.out J (a + p) (by omega) (by omega)
          have HX2 : Hid (Xb w.heap.size (xorNext r).toNat ((W2.setCell ⟨blk, off + J, none⟩ (.int .u64 (G (a + p)))).setCell ⟨blk, off + (a + p), none⟩ (.int .u64 (G J))).drew) := (HX1.out.other (by omega)).other (by omega)
          all_goals go_wp2_with fail
          go_roundw
          case rel => exact ⟨J + 1, t + 1, xorNext r, swp D J (a + p), rfl, by show _ = _; have := HJ.out; omega, by omega, by rw [size_swp]; exact hs, HW, HX2, HSG.out⟩
          case measure => simp [intV]; omega
end Go.Proofs.YtkgjmejpbklabaaGreat
namespace Go.Proofs.YtkgjmejpbklabaaGreat
open Go.RowKit
open Go.Sort
theorem rev_go {i j : Nat} {d : Array Int} (h : i < j) : reverseLoop i j d = reverseLoop (i + 1) (j - 1) (swp d i j) := by rw [reverseLoop, if_pos h]
theorem rev_end {i j : Nat} {d : Array Int} (h : ¬ i < j) : reverseLoop i j d = d := by rw [reverseLoop, if_neg h]
set_option maxHeartbeats 2000000 in
set_option maxRecDepth 100000 in
theorem reverse_at {blk off cap n a b : Nat} {d : Array Int} {w : World} (hN : d.size = n) (hH : Holds uE w blk off d) (hk : blk < w.heap.size) (hab : a < b) (hb : b ≤ n) (hz : n < 2305843009213693952) :
    Calls Tryz.prog 102 #[.slice (some ⟨blk, off, none⟩) n cap, .int .i64 a, .int .i64 b] w fun e w' => e = .returned (.tuple #[]) ∧ SR blk off w (reverseRange d a b) w' := by
  go_enter Tryz.func102, Tryz.ntmps102
  go_wp2
  go_loopw [6, 7] (fun v v2 W => ∃ (i j : Nat) (D : Array Int), v = .int .i64 i ∧ v2 = .int .i64 j ∧ j < n ∧ i ≤ j + 1 ∧ D.size = n ∧ Hid (SR blk off w D W) ∧ Hid (reverseLoop i j D = reverseLoop a (b - 1) d)) (fun v v2 _ => (intV v2 - intV v).toNat)
  case atStart => exact ⟨a, b - 1, d, rfl, by congr 1; omega, by omega, by omega, hN, SR.self hH, rfl⟩
  case round =>
    obtain ⟨i, j, D, rfl, rfl, hj, hi, hs, HS, HO⟩ := hrel
    obtain ⟨G, HG⟩ : ∃ G : Nat → Int, Hid (∀ t, G t = D[t]!) := ⟨fun t => D[t]!, fun _ => rfl⟩
    have hcw : ∀ t, t < n → wr.cell? ⟨blk, off + t, none⟩ = some (.int .u64 (G t)) := fun t ht => by rw [HG.out]; exact HS.out.cell hH hk (by omega) t (by omega)
    have hfw : ∀ t, t < n → wr.frozen? ⟨blk, off + t, none⟩ = false := fun t ht => HS.out.frz hH hk t (by omega)
    by_cases hij : i < j
    · go_wp2
      go_region
      have HW : Hid (SR blk off w (swp D i j) ((wr.setCell ⟨blk, off + i, none⟩ (.int .u64 (G j))).setCell ⟨blk, off + j, none⟩ (.int .u64 (G i))).drew) := HS.out.swapD HG.out i j (by omega) (by omega)
      all_goals go_wp2
      go_roundw
      case rel => exact ⟨i + 1, j - 1, swp D i j, rfl, by congr 1; omega, by omega, by omega, by rw [size_swp]; exact hs, HW, by show _ = _; rw [← HO.out, rev_go hij]⟩
      case measure => simp [intV]; omega
    · go_wp2
      go_end0
      exact ⟨rfl, by unfold reverseRange; rw [← HO.out, rev_end hij]; exact HS.out⟩
end Go.Proofs.YtkgjmejpbklabaaGreat
namespace Go.Proofs.YtkgjmejpbklabaaGreat
open Go.RowKit
open Go.Sort
/-- what the second of two stores finds -/
theorem two_cell {b o n : Nat} {W : World} {G : Nat → Int} (hc : ∀ t, t < n → W.cell? ⟨b, o + t, none⟩ = some (.int .u64 (G t))) (i j : Nat) (hj : j < n) :
    (W.setCell ⟨b, o + i, none⟩ (.int .u64 (G j))).cell? ⟨b, o + j, none⟩ = some (.int .u64 (G j)) := by
  by_cases h : i = j
  · subst h
    exact World.cell?_setCell_same _ _ _ (hc i hj)
  · rw [World.cell?_setCell_other]
    · exact hc j hj
    · intro e
      injection e with e1 e2
      omega
theorem up_go {p : Int → Bool} {d : Array Int} {i j : Nat} (h : i ≤ j) (hp : p d[i]! = true) : scanUp p d j i = scanUp p d j (i + 1) := by rw [scanUp, if_pos (by simp [h, hp])]
theorem up_end {p : Int → Bool} {d : Array Int} {i j : Nat} (h : i ≤ j → p d[i]! = false) : scanUp p d j i = i := by
  rw [scanUp, if_neg]
  intro hc
  simp only [Bool.and_eq_true, decide_eq_true_eq] at hc
  rw [h hc.1] at hc; simp at hc
theorem dn_go {p : Int → Bool} {d : Array Int} {i j : Nat} (h0 : 0 < j) (h : i ≤ j) (hp : p d[j]! = true) : scanDown p d i j = scanDown p d i (j - 1) := by
  cases j with
  | zero => omega
  | succ j => simp only [scanDown, Nat.add_sub_cancel]; rw [if_pos (by simp [h, hp])]
theorem dn_end {p : Int → Bool} {d : Array Int} {i j : Nat} (h : i ≤ j → p d[j]! = false) : scanDown p d i j = j := by
  cases j with
  | zero => rfl
  | succ j =>
    simp only [scanDown]
    rw [if_neg]
    intro hc
    simp only [Bool.and_eq_true, decide_eq_true_eq] at hc
    rw [h hc.1] at hc; simp at hc
set_option maxHeartbeats 2000000 in
set_option maxRecDepth 100000 in
theorem part_at {blk off cap n a b pv : Nat} {d : Array Int} {w : World} (hN : d.size = n) (hH : Holds uE w blk off d) (hk : blk < w.heap.size) (hap : a ≤ pv) (hpb : pv < b) (hb : b ≤ n) (hz : n < 2305843009213693952) :
    Calls Tryz.prog 106 #[.slice (some ⟨blk, off, none⟩) n cap, .int .i64 a, .int .i64 b, .int .i64 pv] w fun e w' => e = .returned (.tuple #[.int .i64 ((partition ltInt d a b pv).1 : Nat), .bool (partition ltInt d a b pv).2.1]) ∧ SR blk off w (partition ltInt d a b pv).2.2 w' := by
  obtain ⟨D, hD⟩ : ∃ D, D = swp d a pv := ⟨_, rfl⟩
  have hDn : D.size = n := by rw [hD, size_swp]; exact hN
  obtain ⟨G, HG⟩ : ∃ G : Nat → Int, Hid (∀ t, G t = d[t]!) := ⟨fun t => d[t]!, fun _ => rfl⟩
  have hcw : ∀ t, t < n → w.cell? ⟨blk, off + t, none⟩ = some (.int .u64 (G t)) := fun t ht => by rw [HG.out]; exact (hH t (by omega)).1
  have hfw : ∀ t, t < n → w.frozen? ⟨blk, off + t, none⟩ = false := fun t ht => (hH t (by omega)).2
  have hc2 := two_cell hcw a pv (by omega)
  have HW : Hid (SR blk off w D ((w.setCell ⟨blk, off + a, none⟩ (.int .u64 (G pv))).setCell ⟨blk, off + pv, none⟩ (.int .u64 (G a))).drew) := by rw [hD]; exact (SR.self hH).swapD HG.out a pv (by omega) (by omega)
  obtain ⟨I, hI⟩ : ∃ I, I = scanUp (fun x => ltInt x D[a]!) D (b - 1) (a + 1) := ⟨_, rfl⟩
  obtain ⟨J, hJ⟩ : ∃ J, J = scanDown (fun x => !ltInt x D[a]!) D I (b - 1) := ⟨_, rfl⟩
  have HE : Hid (partition ltInt d a b pv = if I > J then (J, true, swp D J a) else ((partLoop ltInt a (I + 1) (J - 1) (swp D I J)).1, false, swp (partLoop ltInt a (I + 1) (J - 1) (swp D I J)).2 (partLoop ltInt a (I + 1) (J - 1) (swp D I J)).1 a)) := by
    show _ = _
    unfold partition
    simp only [← hD, ← hI, ← hJ]
  generalize partition ltInt d a b pv = PT at HE ⊢
  have HI : Hid (I = scanUp (fun x => ltInt x D[a]!) D (b - 1) (a + 1)) := hI
  have HJ : Hid (J = scanDown (fun x => !ltInt x D[a]!) D I (b - 1)) := hJ
  clear hI hJ hD
  go_enter Tryz.func106, Tryz.ntmps106
  go_wp2_with fail
  go_region
  generalize ((w.setCell ⟨blk, off + a, none⟩ (.int .u64 (G pv))).setCell ⟨blk, off + pv, none⟩ (.int .u64 (G a))).drew = W1 at HW ⊢
  clear hc2 hcw hfw HG
  go_upto_block 0 with fail
  go_cut [10] from 30 to 45 (fun v W => v = .int .i64 (I : Int) ∧ Hid (SR blk off w D W) ∧ Hid ((a + 1) ≤ I ∧ I ≤ (b - 1) + 2))
  case first =>
    go_wp2_with fail
    go_loopw [10] (fun v W => ∃ i : Nat, v = .int .i64 i ∧ ((a + 1) ≤ i ∧ i ≤ (b - 1) + 2) ∧ Hid (SR blk off w D W) ∧ Hid (scanUp (fun x => ltInt x D[a]!) D ((b - 1)) i = I)) (fun v _ => n + 1 - (intV v).toNat)
    case atStart => exact ⟨(a + 1), by go_num, by omega, HW, HI.out.symm⟩
    case round =>
      obtain ⟨i, rfl, hi, HSu, HU⟩ := hrel
      obtain ⟨G, HG⟩ : ∃ G : Nat → Int, Hid (∀ t, G t = D[t]!) := ⟨fun t => D[t]!, fun _ => rfl⟩
      have hcw : ∀ t, t < n → wr.cell? ⟨blk, off + t, none⟩ = some (.int .u64 (G t)) := fun t ht => by rw [HG.out]; exact HSu.out.cell hH hk (by omega) t (by omega)
      have hfw : ∀ t, t < n → wr.frozen? ⟨blk, off + t, none⟩ = false := fun t ht => HSu.out.frz hH hk t (by omega)
      by_cases hij : i ≤ (b - 1)
      · have hd : decide ((i : Int) ≤ ((b : Int) - 1)) = true := decide_eq_true (by omega)
        have hd2 : (i : Int) ≤ ((b : Int) - 1) := by omega
        go_wp2_with fail
        go_quiet (first | (go_at_call 104; refine Calls.quiet_of_same (less_is _ _ _)))
        go_wp2_with fail
        all_goals first
          | (have hl : ltInt (G i) (G a) = true := by assumption
             have HP : Hid ((fun x => ltInt x D[a]!) D[i]! = true) := by show _ = _; simp only [← HG.out, hl]
             go_roundw
             case rel => exact ⟨i + 1, rfl, by omega, HSu.out.draws nq, by show _ = _; rw [← HU.out, ← up_go hij HP.out]⟩
             case measure => simp [intV]; omega)
          | (have hl : ltInt (G i) (G a) = false := by assumption
             have HP : Hid (i ≤ (b - 1) → (fun x => ltInt x D[a]!) D[i]! = false) := fun _ => by simp only [← HG.out, hl]
             have HV : Hid (I = i) := by show _ = _; rw [← HU.out, up_end HP.out]
             go_meet
             case rel => exact ⟨by rw [HV.out], HSu.out.draws nq, by show _ ∧ _; rw [HV.out]; omega⟩)
      · have hd : decide ((i : Int) ≤ ((b : Int) - 1)) = false := decide_eq_false (by omega)
        have HV : Hid (I = i) := by show _ = _; rw [← HU.out, up_end (fun h => absurd h hij)]
        go_wp2_with fail
        go_quiet (first | (go_at_call 104; refine Calls.quiet_of_same (less_is _ _ _)))
        go_wp2_with fail
        go_meet
        case rel => exact ⟨by rw [HV.out], HSu.out.draws nq, by show _ ∧ _; rw [HV.out]; omega⟩
  case rest =>
    obtain ⟨rfl, HS1, HB1⟩ := hcut
    have hI1 := HB1.out
    rw [show ((b : Int) - 1) = ((b - 1 : Nat) : Int) by omega]
    go_upto_block 2 with fail
    go_cut [11] from 46 to 62 (fun v W => v = .int .i64 (J : Int) ∧ Hid (SR blk off w D W) ∧ Hid (J ≤ (b - 1) ∧ I ≤ J + 2))
    case first =>
      go_wp2_with fail
      go_loopw [11] (fun v W => ∃ j : Nat, v = .int .i64 j ∧ (j ≤ (b - 1) ∧ I ≤ j + 2) ∧ Hid (SR blk off w D W) ∧ Hid (scanDown (fun x => !ltInt x D[a]!) D I j = J)) (fun v _ => (intV v).toNat)
      case atStart => exact ⟨(b - 1), rfl, by omega, HS1, HJ.out.symm⟩
      case round =>
        obtain ⟨j, rfl, hj, HSu, HU⟩ := hrel
        obtain ⟨G, HG⟩ : ∃ G : Nat → Int, Hid (∀ t, G t = D[t]!) := ⟨fun t => D[t]!, fun _ => rfl⟩
        have hcw : ∀ t, t < n → wr.cell? ⟨blk, off + t, none⟩ = some (.int .u64 (G t)) := fun t ht => by rw [HG.out]; exact HSu.out.cell hH hk (by omega) t (by omega)
        have hfw : ∀ t, t < n → wr.frozen? ⟨blk, off + t, none⟩ = false := fun t ht => HSu.out.frz hH hk t (by omega)
        have hjn : j < n := by omega
        by_cases hij : I ≤ j
        · have hd : decide ((I : Int) ≤ (j : Int)) = true := decide_eq_true (by omega)
          have hd2 : (I : Int) ≤ (j : Int) := by omega
          go_wp2_with fail
          go_quiet (first | (go_at_call 104; refine Calls.quiet_of_same (less_is _ _ _)))
          go_wp2_with fail
          all_goals first
            | (have hl : (!ltInt (G j) (G a)) = true := by assumption
               have HP : Hid ((fun x => !ltInt x D[a]!) D[j]! = true) := by show _ = _; simp only [← HG.out, hl]
               go_roundw
               case rel => exact ⟨j - 1, by congr 1; omega, by omega, HSu.out.draws nq, by show _ = _; rw [← HU.out, ← dn_go (by omega) hij HP.out]⟩
               case measure => simp [intV]; omega)
            | (have hl : (!ltInt (G j) (G a)) = false := by assumption
               have HP : Hid (I ≤ j → (fun x => !ltInt x D[a]!) D[j]! = false) := fun _ => by simp only [← HG.out, hl]
               have HV : Hid (J = j) := by show _ = _; rw [← HU.out, dn_end HP.out]
               go_meet
               case rel => exact ⟨by rw [HV.out], HSu.out.draws nq, by show _ ∧ _; rw [HV.out]; omega⟩)
        · have hd : decide ((I : Int) ≤ (j : Int)) = false := decide_eq_false (by omega)
          have HV : Hid (J = j) := by show _ = _; rw [← HU.out, dn_end (fun h => absurd h hij)]
          go_wp2_with fail
          go_quiet (first | (go_at_call 104; refine Calls.quiet_of_same (less_is _ _ _)))
          go_wp2_with fail
          go_meet
          case rel => exact ⟨by rw [HV.out], HSu.out.draws nq, by show _ ∧ _; rw [HV.out]; omega⟩
    case rest =>
      obtain ⟨rfl, HS2, HB2⟩ := hcut
      have hJ1 := HB2.out
      have hJn : J < n := by omega
      have hIn : I ≤ n + 1 := by omega
      by_cases hIJ : I > J
      · have HE2 : Hid (PT = (J, true, swp D J a)) := by show _ = _; rw [HE.out, if_pos hIJ]
        obtain ⟨G2, HG2⟩ : ∃ G : Nat → Int, Hid (∀ t, G t = D[t]!) := ⟨fun t => D[t]!, fun _ => rfl⟩
        have hcw : ∀ t, t < n → wc.cell? ⟨blk, off + t, none⟩ = some (.int .u64 (G2 t)) := fun t ht => by rw [HG2.out]; exact HS2.out.cell hH hk (by omega) t (by omega)
        have hfw : ∀ t, t < n → wc.frozen? ⟨blk, off + t, none⟩ = false := fun t ht => HS2.out.frz hH hk t (by omega)
        have hc2 := two_cell hcw J a (by omega)
        have HW2 : Hid (SR blk off w (swp D J a) ((wc.setCell ⟨blk, off + J, none⟩ (.int .u64 (G2 a))).setCell ⟨blk, off + a, none⟩ (.int .u64 (G2 J))).drew) := HS2.out.swapD HG2.out J a (by omega) (by omega)
        clear HE HI HJ HS1 HB1 HB2
        go_wp2_with fail
        go_region
        go_wp2_with fail
        go_ret2
        rw [HE2.out]
        exact ⟨rfl, HW2.out⟩
      · obtain ⟨R, hR⟩ : ∃ R, R = partLoop ltInt a (I + 1) (J - 1) (swp D I J) := ⟨_, rfl⟩
        have HE2 : Hid (PT = (R.1, false, swp R.2 R.1 a)) := by show _ = _; rw [HE.out, if_neg hIJ, hR]
        obtain ⟨D2, hD2⟩ : ∃ D2, D2 = swp D I J := ⟨_, rfl⟩
        have hD2n : D2.size = n := by rw [hD2, size_swp]; exact hDn
        have HR : Hid (partLoop ltInt a (I + 1) (J - 1) D2 = R) := by show _ = _; rw [hR, hD2]
        obtain ⟨G2, HG2⟩ : ∃ G : Nat → Int, Hid (∀ t, G t = D[t]!) := ⟨fun t => D[t]!, fun _ => rfl⟩
        have hcw : ∀ t, t < n → wc.cell? ⟨blk, off + t, none⟩ = some (.int .u64 (G2 t)) := fun t ht => by rw [HG2.out]; exact HS2.out.cell hH hk (by omega) t (by omega)
        have hfw : ∀ t, t < n → wc.frozen? ⟨blk, off + t, none⟩ = false := fun t ht => HS2.out.frz hH hk t (by omega)
        have hc2 := two_cell hcw I J (by omega)
        have HW2 : Hid (SR blk off w D2 ((wc.setCell ⟨blk, off + I, none⟩ (.int .u64 (G2 J))).setCell ⟨blk, off + J, none⟩ (.int .u64 (G2 I))).drew) := by rw [hD2]; exact HS2.out.swapD HG2.out I J (by omega) (by omega)
        clear HE HI HJ HS1 HB1 HB2 hR hD2
        go_wp2_with fail
        go_region
        generalize ((wc.setCell ⟨blk, off + I, none⟩ (.int .u64 (G2 J))).setCell ⟨blk, off + J, none⟩ (.int .u64 (G2 I))).drew = W3 at HW2 ⊢
        clear hc2 hcw hfw HG2
        go_wp2_with fail
        go_loopw [10, 11] (fun v v2 W => ∃ (i3 j3 : Nat) (D3 : Array Int), v = .int .i64 i3 ∧ v2 = .int .i64 j3 ∧ (a < i3 ∧ i3 ≤ j3 + 2 ∧ j3 < n) ∧ D3.size = n ∧ Hid (SR blk off w D3 W) ∧ Hid (partLoop ltInt a i3 j3 D3 = R)) (fun v v2 _ => (intV v2 + 1 - intV v).toNat)
        case atStart => exact ⟨I + 1, J - 1, D2, rfl, by congr 1; omega, by omega, hD2n, HW2, HR⟩
        case round =>
          obtain ⟨i3, j3, D3, rfl, rfl, hij3, hD3n, HS3, HR3⟩ := hrel
          obtain ⟨I3, hI3⟩ : ∃ I, I = scanUp (fun x => ltInt x D3[a]!) D3 j3 i3 := ⟨_, rfl⟩
          obtain ⟨J3, hJ3⟩ : ∃ J, J = scanDown (fun x => !ltInt x D3[a]!) D3 I3 j3 := ⟨_, rfl⟩
          have HE3 : Hid (R = if I3 > J3 then (J3, D3) else partLoop ltInt a (I3 + 1) (J3 - 1) (swp D3 I3 J3)) := by
            show _ = _
            rw [← HR3.out, partLoop_eq]
            simp only [← hI3, ← hJ3]
          have HI3 : Hid (I3 = scanUp (fun x => ltInt x D3[a]!) D3 j3 i3) := hI3
          have HJ3 : Hid (J3 = scanDown (fun x => !ltInt x D3[a]!) D3 I3 j3) := hJ3
          clear hI3 hJ3 HR3 HR
          go_upto_block 6 with fail
          go_cut [10] from 99 to 152 (fun v W => v = .int .i64 (I3 : Int) ∧ Hid (SR blk off w D3 W) ∧ Hid (i3 ≤ I3 ∧ I3 ≤ j3 + 2))
          case first =>
            go_wp2_with fail
            go_loopw [10] (fun v W => ∃ i : Nat, v = .int .i64 i ∧ (i3 ≤ i ∧ i ≤ j3 + 2) ∧ Hid (SR blk off w D3 W) ∧ Hid (scanUp (fun x => ltInt x D3[a]!) D3 (j3) i = I3)) (fun v _ => n + 1 - (intV v).toNat)
            case atStart => exact ⟨i3, rfl, by omega, HS3, HI3.out.symm⟩
            case round =>
              obtain ⟨i, rfl, hi, HSu, HU⟩ := hrel
              obtain ⟨G, HG⟩ : ∃ G : Nat → Int, Hid (∀ t, G t = D3[t]!) := ⟨fun t => D3[t]!, fun _ => rfl⟩
              have hcw : ∀ t, t < n → wr.cell? ⟨blk, off + t, none⟩ = some (.int .u64 (G t)) := fun t ht => by rw [HG.out]; exact HSu.out.cell hH hk (by omega) t (by omega)
              have hfw : ∀ t, t < n → wr.frozen? ⟨blk, off + t, none⟩ = false := fun t ht => HSu.out.frz hH hk t (by omega)
              by_cases hij : i ≤ j3
              · have hd : decide ((i : Int) ≤ (j3 : Int)) = true := decide_eq_true (by omega)
                have hd2 : (i : Int) ≤ (j3 : Int) := by omega
                go_wp2_with fail
                go_quiet (first | (go_at_call 104; refine Calls.quiet_of_same (less_is _ _ _)))
                go_wp2_with fail
                all_goals first
                  | (have hl : ltInt (G i) (G a) = true := by assumption
                     have HP : Hid ((fun x => ltInt x D3[a]!) D3[i]! = true) := by show _ = _; simp only [← HG.out, hl]
                     go_roundw
                     case rel => exact ⟨i + 1, rfl, by omega, HSu.out.draws nq, by show _ = _; rw [← HU.out, ← up_go hij HP.out]⟩
                     case measure => simp [intV]; omega)
                  | (have hl : ltInt (G i) (G a) = false := by assumption
                     have HP : Hid (i ≤ j3 → (fun x => ltInt x D3[a]!) D3[i]! = false) := fun _ => by simp only [← HG.out, hl]
                     have HV : Hid (I3 = i) := by show _ = _; rw [← HU.out, up_end HP.out]
                     go_meet
                     case rel => exact ⟨by rw [HV.out], HSu.out.draws nq, by show _ ∧ _; rw [HV.out]; omega⟩)
              · have hd : decide ((i : Int) ≤ (j3 : Int)) = false := decide_eq_false (by omega)
                have HV : Hid (I3 = i) := by show _ = _; rw [← HU.out, up_end (fun h => absurd h hij)]
                go_wp2_with fail
                go_quiet (first | (go_at_call 104; refine Calls.quiet_of_same (less_is _ _ _)))
                go_wp2_with fail
                go_meet
                case rel => exact ⟨by rw [HV.out], HSu.out.draws nq, by show _ ∧ _; rw [HV.out]; omega⟩
          case rest =>
            obtain ⟨rfl, HS4, HB4⟩ := hcut
            have hI4 := HB4.out
            go_upto_block 8 with fail
            go_cut [11] from 99 to 152 (fun v W => v = .int .i64 (J3 : Int) ∧ Hid (SR blk off w D3 W) ∧ Hid (J3 ≤ j3 ∧ I3 ≤ J3 + 2))
            case first =>
              go_wp2_with fail
              go_loopw [11] (fun v W => ∃ j : Nat, v = .int .i64 j ∧ (j ≤ j3 ∧ I3 ≤ j + 2) ∧ Hid (SR blk off w D3 W) ∧ Hid (scanDown (fun x => !ltInt x D3[a]!) D3 I3 j = J3)) (fun v _ => (intV v).toNat)
              case atStart => exact ⟨j3, rfl, by omega, HS4, HJ3.out.symm⟩
              case round =>
                obtain ⟨j, rfl, hj, HSu, HU⟩ := hrel
                obtain ⟨G, HG⟩ : ∃ G : Nat → Int, Hid (∀ t, G t = D3[t]!) := ⟨fun t => D3[t]!, fun _ => rfl⟩
                have hcw : ∀ t, t < n → wr.cell? ⟨blk, off + t, none⟩ = some (.int .u64 (G t)) := fun t ht => by rw [HG.out]; exact HSu.out.cell hH hk (by omega) t (by omega)
                have hfw : ∀ t, t < n → wr.frozen? ⟨blk, off + t, none⟩ = false := fun t ht => HSu.out.frz hH hk t (by omega)
                have hjn : j < n := by omega
                by_cases hij : I3 ≤ j
                · have hd : decide ((I3 : Int) ≤ (j : Int)) = true := decide_eq_true (by omega)
                  have hd2 : (I3 : Int) ≤ (j : Int) := by omega
                  go_wp2_with fail
                  go_quiet (first | (go_at_call 104; refine Calls.quiet_of_same (less_is _ _ _)))
                  go_wp2_with fail
                  all_goals first
                    | (have hl : (!ltInt (G j) (G a)) = true := by assumption
                       have HP : Hid ((fun x => !ltInt x D3[a]!) D3[j]! = true) := by show _ = _; simp only [← HG.out, hl]
                       go_roundw
                       case rel => exact ⟨j - 1, by congr 1; omega, by omega, HSu.out.draws nq, by show _ = _; rw [← HU.out, ← dn_go (by omega) hij HP.out]⟩
                       case measure => simp [intV]; omega)
                    | (have hl : (!ltInt (G j) (G a)) = false := by assumption
                       have HP : Hid (I3 ≤ j → (fun x => !ltInt x D3[a]!) D3[j]! = false) := fun _ => by simp only [← HG.out, hl]
                       have HV : Hid (J3 = j) := by show _ = _; rw [← HU.out, dn_end HP.out]
                       go_meet
                       case rel => exact ⟨by rw [HV.out], HSu.out.draws nq, by show _ ∧ _; rw [HV.out]; omega⟩)
                · have hd : decide ((I3 : Int) ≤ (j : Int)) = false := decide_eq_false (by omega)
                  have HV : Hid (J3 = j) := by show _ = _; rw [← HU.out, dn_end (fun h => absurd h hij)]
                  go_wp2_with fail
                  go_quiet (first | (go_at_call 104; refine Calls.quiet_of_same (less_is _ _ _)))
                  go_wp2_with fail
                  go_meet
                  case rel => exact ⟨by rw [HV.out], HSu.out.draws nq, by show _ ∧ _; rw [HV.out]; omega⟩
            case rest =>
              obtain ⟨rfl, HS5, HB5⟩ := hcut
              have hJ4 := HB5.out
              have hJ3n : J3 < n := by omega
              have hI3n : I3 ≤ n + 1 := by omega
              obtain ⟨G5, HG5⟩ : ∃ G : Nat → Int, Hid (∀ t, G t = D3[t]!) := ⟨fun t => D3[t]!, fun _ => rfl⟩
              have hcw : ∀ t, t < n → wc.cell? ⟨blk, off + t, none⟩ = some (.int .u64 (G5 t)) := fun t ht => by rw [HG5.out]; exact HS5.out.cell hH hk (by omega) t (by omega)
              have hfw : ∀ t, t < n → wc.frozen? ⟨blk, off + t, none⟩ = false := fun t ht => HS5.out.frz hH hk t (by omega)
              by_cases hIJ3 : I3 > J3
              · have hc2 := two_cell hcw J3 a (by omega)
                have HW5 : Hid (SR blk off w (swp D3 J3 a) ((wc.setCell ⟨blk, off + J3, none⟩ (.int .u64 (G5 a))).setCell ⟨blk, off + a, none⟩ (.int .u64 (G5 J3))).drew) := HS5.out.swapD HG5.out J3 a (by omega) (by omega)
                have HE5 : Hid (PT = (J3, false, swp D3 J3 a)) := by show _ = _; rw [HE2.out, HE3.out, if_pos hIJ3]
                go_wp2_with fail
                go_region
                go_wp2_with fail
                go_ret2
                rw [HE5.out]
                exact ⟨rfl, HW5.out⟩
              · have hc2 := two_cell hcw I3 J3 (by omega)
                have HW5 : Hid (SR blk off w (swp D3 I3 J3) ((wc.setCell ⟨blk, off + I3, none⟩ (.int .u64 (G5 J3))).setCell ⟨blk, off + J3, none⟩ (.int .u64 (G5 I3))).drew) := HS5.out.swapD HG5.out I3 J3 (by omega) (by omega)
                have HE5 : Hid (partLoop ltInt a (I3 + 1) (J3 - 1) (swp D3 I3 J3) = R) := by show _ = _; rw [HE3.out, if_neg hIJ3]
                go_wp2_with fail
                go_region
                go_wp2_with fail
                go_roundw
                case rel => exact ⟨I3 + 1, J3 - 1, swp D3 I3 J3, rfl, by congr 1; omega, by omega, by rw [size_swp]; exact hD3n, HW5, HE5⟩
                case measure => simp [intV]; omega
end Go.Proofs.YtkgjmejpbklabaaGreat
