/-
  Equality of lists.
-/
import Derived.Test.YtkffmglcllhbmaaBa
namespace Go.Proofs.Ytkffmglcllhbmaa
open Go.RowKit

open B (IIn)
set_option maxHeartbeats 1000000 in
set_option maxRecDepth 100000 in
theorem sameI_is (p q : Option Addr) (n c m d : Nat) (xs ys : List Int) (w : World) (hx : IIn w p n xs) (hy : IIn w q m ys) (hn : n ≤ 140737488355328) :
    Calls Try.prog 17 #[.slice p n c, .slice q m d] w fun e w' => e = .returned (.bool (decide (xs = ys))) ∧ ∃ m, w' = w.drewN m := by
  by_cases hnm : n = m
  · subst hnm
    have hb : (((n : Nat) : Int) != ((n : Nat) : Int)) = false := by simp
    have HX : Hid (IIn w p n xs) := hx
    have HY : Hid (IIn w q n ys) := hy
    clear hx hy
    go_enter Try.func17, Try.ntmps17
    go_wp2
    go_loopw [13] (fun i wr => ∃ k : Nat, k ≤ n ∧ i = .int .i64 k ∧ Hid (xs.take k = ys.take k) ∧ ∃ nq, wr = w.drewN nq) (fun i _ => n - (intOf i).toNat)
    case atStart => exact ⟨0, Nat.zero_le _, rfl, rfl, 0, rfl⟩
    case round =>
      obtain ⟨k, hk, rfl, HT, nq, hwr⟩ := hrel
      subst hwr
      by_cases hlt : k < n
      · have hkx : k < xs.length := by rw [HX.out.len]; exact hlt
        have hky : k < ys.length := by rw [HY.out.len]; exact hlt
        obtain ⟨b', o, rfl, hcx⟩ := HX.out.cells (by omega)
        obtain ⟨b2, o2, rfl, hcy⟩ := HY.out.cells (by omega)
        have h1 := hcx k hlt
        have h2 := hcy k hlt
        have i1 : (k : Int) < (n : Int) := by omega
        have HT2 : Hid (xs.getD k 0 = ys.getD k 0 → xs.take (k + 1) = ys.take (k + 1)) := by
          intro e
          simp only [List.getD, List.getElem?_eq_getElem hkx, List.getElem?_eq_getElem hky, Option.getD_some] at e
          rw [List.take_succ_eq_append_getElem hkx, List.take_succ_eq_append_getElem hky, e, HT.out]
        have HT3 : Hid (¬ xs.getD k 0 = ys.getD k 0 → ¬ xs = ys) := by
          intro e e2
          subst e2
          exact e rfl
        clear hcx hcy hkx hky HX HY HT
        generalize xs.getD k 0 = x at *
        generalize ys.getD k 0 = y at *
        cases hz : (x != y)
        · go_wp2
          go_quiet (fail)
          go_wp2
          go_roundw
          case rel => exact ⟨k + 1, by omega, by go_num, HT2.out (by simpa using hz), _, rfl⟩
          case measure => simp [intOf]; omega
        · go_wp2
          go_quiet (fail)
          go_wp2
          go_ret
          exact ⟨by rw [decide_eq_false (HT3.out (by simpa using hz))]; rfl, _, World.drewN_drewN _ _ _⟩
      · have HE : Hid (xs = ys) := by
          have := HT.out
          rw [List.take_of_length_le (by rw [HX.out.len]; omega), List.take_of_length_le (by rw [HY.out.len]; omega)] at this
          exact this
        go_wp2
        go_ret
        exact ⟨by rw [decide_eq_true HE.out]; rfl, _, rfl⟩
  · have hb : (((n : Nat) : Int) != ((m : Nat) : Int)) = true := by rw [bne_iff_ne]; omega
    have HE : Hid (decide (xs = ys) = false) := decide_eq_false fun e => hnm (by rw [← hx.len, ← hy.len, e])
    clear hx hy
    go_enter Try.func17, Try.ntmps17
    go_wp2
    go_ret
    exact ⟨by rw [HE.out]; rfl, 0, rfl⟩
set_option maxHeartbeats 1000000 in
set_option maxRecDepth 100000 in
theorem sameT_is (p q : Option Addr) (n c m d : Nat) (xs ys : List Int) (w : World) (hx : UIn w p n xs) (hy : UIn w q m ys) (hn : n ≤ 140737488355328) :
    Calls Try.prog 16 #[.slice p n c, .slice q m d] w fun e w' => e = .returned (.bool (decide (xs = ys))) ∧ ∃ m, w' = w.drewN m := by
  by_cases hnm : n = m
  · subst hnm
    have hb : (((n : Nat) : Int) != ((n : Nat) : Int)) = false := by simp
    have HX : Hid (UIn w p n xs) := hx
    have HY : Hid (UIn w q n ys) := hy
    clear hx hy
    go_enter Try.func16, Try.ntmps16
    go_wp2
    go_loopw [13] (fun i wr => ∃ k : Nat, k ≤ n ∧ i = .int .i64 k ∧ Hid (xs.take k = ys.take k) ∧ ∃ nq, wr = w.drewN nq) (fun i _ => n - (intOf i).toNat)
    case atStart => exact ⟨0, Nat.zero_le _, rfl, rfl, 0, rfl⟩
    case round =>
      obtain ⟨k, hk, rfl, HT, nq, hwr⟩ := hrel
      subst hwr
      by_cases hlt : k < n
      · have hkx : k < xs.length := by rw [HX.out.len]; exact hlt
        have hky : k < ys.length := by rw [HY.out.len]; exact hlt
        obtain ⟨b', o, rfl, hcx⟩ := HX.out.cells (by omega)
        obtain ⟨b2, o2, rfl, hcy⟩ := HY.out.cells (by omega)
        have h1 := hcx k hlt
        have h2 := hcy k hlt
        have i1 : (k : Int) < (n : Int) := by omega
        have HT2 : Hid (xs.getD k 0 = ys.getD k 0 → xs.take (k + 1) = ys.take (k + 1)) := by
          intro e
          simp only [List.getD, List.getElem?_eq_getElem hkx, List.getElem?_eq_getElem hky, Option.getD_some] at e
          rw [List.take_succ_eq_append_getElem hkx, List.take_succ_eq_append_getElem hky, e, HT.out]
        have HT3 : Hid (¬ xs.getD k 0 = ys.getD k 0 → ¬ xs = ys) := by
          intro e e2
          subst e2
          exact e rfl
        clear hcx hcy hkx hky HX HY HT
        generalize xs.getD k 0 = x at *
        generalize ys.getD k 0 = y at *
        cases hz : (x != y)
        · go_wp2
          go_quiet (fail)
          go_wp2
          go_roundw
          case rel => exact ⟨k + 1, by omega, by go_num, HT2.out (by simpa using hz), _, rfl⟩
          case measure => simp [intOf]; omega
        · go_wp2
          go_quiet (fail)
          go_wp2
          go_ret
          exact ⟨by rw [decide_eq_false (HT3.out (by simpa using hz))]; rfl, _, World.drewN_drewN _ _ _⟩
      · have HE : Hid (xs = ys) := by
          have := HT.out
          rw [List.take_of_length_le (by rw [HX.out.len]; omega), List.take_of_length_le (by rw [HY.out.len]; omega)] at this
          exact this
        go_wp2
        go_ret
        exact ⟨by rw [decide_eq_true HE.out]; rfl, _, rfl⟩
  · have hb : (((n : Nat) : Int) != ((m : Nat) : Int)) = true := by rw [bne_iff_ne]; omega
    have HE : Hid (decide (xs = ys) = false) := decide_eq_false fun e => hnm (by rw [← hx.len, ← hy.len, e])
    clear hx hy
    go_enter Try.func16, Try.ntmps16
    go_wp2
    go_ret
    exact ⟨by rw [HE.out]; rfl, 0, rfl⟩
end Go.Proofs.Ytkffmglcllhbmaa
