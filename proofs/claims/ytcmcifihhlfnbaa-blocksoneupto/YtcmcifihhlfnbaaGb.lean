/-
  Layer 5: the statements' own 'turn': a list written over where it stands.
-/
import Derived.Test.YtcmcifihhlfnbaaGa
import Derived.BigRegion
namespace Go.Proofs.Ytcmcifihhlfnbaa
open Go.RowKit

theorem getD_front {xs rest : List Int} {i : Nat} (hi : i < xs.length) : (I64 (xs ++ rest))[i]? = some (.int .i64 (xs.getD i 0)) := by
  rw [I64, List.getElem?_map, List.getElem?_append_left hi]
  simp [List.getD, List.getElem?_eq_getElem hi]
theorem I64_set {xs rest : List Int} {i : Nat} {x : Int} (hi : i < xs.length) : (I64 (xs ++ rest)).set i (.int .i64 x) = I64 (xs.set i x ++ rest) := by
  rw [I64, ← List.map_set, List.set_append_left _ _ hi]

/-- one number of an owned row written over -/
theorem row_put {w : World} {B g N cap : Nat} {xs rest : List Int} (h : w.ownsRow B 3 1 (.slice (some ⟨g, 0, none⟩) N cap) N (I64 (xs ++ rest))) {i : Nat} {x : Int} (hi : i < xs.length) :
    (w.setCell ⟨g, i, none⟩ (.int .i64 x)).ownsRow B 3 1 (.slice (some ⟨g, 0, none⟩) N cap) N (I64 (xs.set i x ++ rest)) ∧ w.grownBy (w.setCell ⟨g, i, none⟩ (.int .i64 x)) (some g) := by
  have hst := h.stored i (.int .i64 x)
  rw [I64_set hi] at hst
  exact hst
theorem row_cell {w : World} {B g N cap : Nat} {xs rest : List Int} (h : w.ownsRow B 3 1 (.slice (some ⟨g, 0, none⟩) N cap) N (I64 (xs ++ rest))) {i : Nat} (hi : i < xs.length) : w.cell? ⟨g, i, none⟩ = some (.int .i64 (xs.getD i 0)) := by
  have hl : (I64 (xs ++ rest)).length = N := by have := h.1; omega
  rw [I64_length, List.length_append] at hl
  exact (h.cellAt i (by omega)).trans (getD_front hi)
theorem own_drawn {w : World} {base : Nat} {e : TypeId} {size : Nat} {v : Value} {n : Nat} {xs : List Value} (h : w.ownsRow base e size v n xs) (j : Nat) : (w.drewN j).ownsRow base e size v n xs := h
theorem own_drew {w : World} {base : Nat} {e : TypeId} {size : Nat} {v : Value} {n : Nat} {xs : List Value} (h : w.ownsRow base e size v n xs) : w.drew.ownsRow base e size v n xs := h

theorem grown_trans {a b c : World} {r : Option Nat} (h : a.grownBy b r) (k : b.grownBy c r) : a.grownBy c r :=
  ⟨k.os.trans h.os, k.tape.trans h.tape, k.output.trans h.output, Nat.le_trans h.size k.size, fun q hq hne => (k.block q (Nat.lt_of_lt_of_le hq h.size) hne).trans (h.block q hq hne)⟩
theorem grown_drew {a b : World} {r : Option Nat} (h : a.grownBy b r) : a.grownBy b.drew r := ⟨h.os, h.tape, h.output, h.size, h.block⟩

set_option maxRecDepth 100000 in
set_option maxHeartbeats 4000000 in
theorem turn_is (B g N cap n c : Nat) (xs rest : List Int) (w : World) (h : w.ownsRow B 3 1 (.slice (some ⟨g, 0, none⟩) N cap) N (I64 (xs ++ rest))) (hl : xs.length = n) (hn : n + 80 ≤ 17592186044416) :
    Calls Try.prog 11 #[.slice (some ⟨g, 0, none⟩) n c] w fun e w' => e = .returned (.tuple #[]) ∧ w'.ownsRow B 3 1 (.slice (some ⟨g, 0, none⟩) N cap) N (I64 (turnS xs ++ rest)) ∧ w.grownBy w' (some g) := by
  have HO : Hid (w.ownsRow B 3 1 (.slice (some ⟨g, 0, none⟩) N cap) N (I64 (xs ++ rest))) := h
  have HL : Hid (xs.length = n) := hl
  clear h hl
  go_enter Try.func11, Try.ntmps11
  go_wp2
  go_loopw [2] (fun i wr => ∃ k : Nat, k ≤ n / 2 ∧ i = .int .i64 k ∧ Hid (wr.ownsRow B 3 1 (.slice (some ⟨g, 0, none⟩) N cap) N (I64 (swp xs k ++ rest))) ∧ Hid (w.grownBy wr (some g))) (fun i _ => n / 2 - (intOf i).toNat)
  case atStart => exact ⟨0, Nat.zero_le _, rfl, HO.out, World.grownBy.refl _ _⟩
  case round =>
    obtain ⟨k, hk, rfl, HR, HG⟩ := hrel
    by_cases hlt : k < n / 2
    · have hsl : (swp xs k).length = n := (swp_length xs k).trans HL.out
      obtain ⟨j, hj⟩ : ∃ j, j = n - 1 - k := ⟨_, rfl⟩
      have hij : (n : Int) - 1 - (k : Int) = (j : Int) := by omega
      have i1 : (j : Int) < (n : Int) := by omega
      have i2 : (k : Int) < (n : Int) := by omega
      have i3 : ¬ (n : Int) = 0 := by omega
      have hkj : ¬ k = j := by omega
      have i4 : (k : Int) < (n : Int) / 2 := by omega
      have hjn : j < n := by omega
      have ck := row_cell HR.out (i := k) (by omega)
      have cj := row_cell HR.out (i := j) (by omega)
      have fk := HR.out.frozenAt k
      have fj := HR.out.frozenAt j
      have HS : Hid (swp xs (k + 1) = ((swp xs k).set k ((swp xs k).getD j 0)).set j ((swp xs k).getD k 0)) := by
        show _ = _
        rw [hj, ← HL.out]
        rfl
      have HSL : Hid ((swp xs k).length = n) := hsl
      clear hsl hj HL HO
      obtain ⟨a, ha⟩ : ∃ a, (swp xs k).getD k 0 = a := ⟨_, rfl⟩
      obtain ⟨b, hb⟩ : ∃ b, (swp xs k).getD j 0 = b := ⟨_, rfl⟩
      rw [ha] at ck HS
      rw [hb] at cj HS
      clear ha hb
      have HN : Hid (((wr.setCell ⟨g, k, none⟩ (.int .i64 b)).setCell ⟨g, j, none⟩ (.int .i64 a)).drew.ownsRow B 3 1 (.slice (some ⟨g, 0, none⟩) N cap) N (I64 (swp xs (k + 1) ++ rest)) ∧ w.grownBy ((wr.setCell ⟨g, k, none⟩ (.int .i64 b)).setCell ⟨g, j, none⟩ (.int .i64 a)).drew (some g)) := by
        have r1 := row_put HR.out (i := k) (x := b) (by rw [HSL.out]; omega)
        have r2 := row_put r1.1 (i := j) (x := a) (by rw [List.length_set, HSL.out]; omega)
        rw [HS.out]
        exact ⟨own_drew r2.1, grown_drew (grown_trans HG.out (grown_trans r1.2 r2.2))⟩
      clear HR HG HS HSL
      go_wp2
      go_region
      go_wp2
      go_roundw
      case rel => exact ⟨k + 1, by omega, by go_num, HN.out.1, HN.out.2⟩
      case measure => simp [intOf]; omega
    · obtain rfl : k = n / 2 := by omega
      have i4 : ¬ ((n / 2 : Nat) : Int) < (n : Int) / 2 := by omega
      have hsl : (swp xs (n / 2)).length = n := (swp_length xs _).trans HL.out
      by_cases h0 : n = 0
      · subst h0
        have E : turnS xs = swp xs 0 := by
          have hx : xs = [] := List.eq_nil_of_length_eq_zero HL.out
          subst hx
          rfl
        have HE : Hid (_) := E
        clear E hsl
        go_wp2
        go_end0
        exact ⟨rfl, by rw [HE.out]; have h := HR.out; simpa [I64] using h, HG.out⟩
      · have i1 : (0 : Int) < (n : Int) := by omega
        have c1 := row_cell HR.out (i := n - 1) (by omega)
        have f0 := HR.out.frozenAt 0
        have c0 := row_cell HR.out (i := 0) (by omega)
        have i2 : ((n : Int) - 1).toNat = n - 1 := by omega
        have i3 : (0 : Int) ≤ (n : Int) - 1 := by omega
        have i5 : (n : Int) - 1 < (n : Int) := by omega
        have HE : Hid (turnS xs = (swp xs (n / 2)).set 0 ((swp xs (n / 2)).getD (n - 1) 0)) := by
          show _ = _
          rw [← HL.out]
          rfl
        have HSL : Hid ((swp xs (n / 2)).length = n) := hsl
        clear hsl
        obtain ⟨a, ha⟩ : ∃ a, (swp xs (n / 2)).getD 0 0 = a := ⟨_, rfl⟩
        obtain ⟨b, hb⟩ : ∃ b, (swp xs (n / 2)).getD (n - 1) 0 = b := ⟨_, rfl⟩
        rw [ha] at c0
        rw [hb] at c1 HE
        clear ha hb
        have HN : Hid ((wr.setCell ⟨g, 0, none⟩ (.int .i64 b)).ownsRow B 3 1 (.slice (some ⟨g, 0, none⟩) N cap) N (I64 (turnS xs ++ rest)) ∧ w.grownBy (wr.setCell ⟨g, 0, none⟩ (.int .i64 b)) (some g)) := by
          have r1 := row_put HR.out (i := 0) (x := b) (by rw [HSL.out]; omega)
          rw [HE.out]
          exact ⟨r1.1, grown_trans HG.out r1.2⟩
        clear HR HG HSL HE
        go_wp2
        go_end0
        exact ⟨rfl, by have h := HN.out.1; simpa [I64] using h, HN.out.2⟩

end Go.Proofs.Ytcmcifihhlfnbaa
