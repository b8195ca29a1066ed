/-
  Contracts of layer 1, seventh part: wicketref01.Same.
-/
import Derived.Test.YtdfnpapnoedpkabCf
import Derived.Deep.QuietTactic
import Derived.BigQuiet
namespace Go.Proofs.Ytdfnpapnoedpkab
open Go.RowKit

set_option maxHeartbeats 1000000 in
theorem same_unlike (p q : Option Addr) (n c m d : Nat) (w : World) (hne : ¬ n = m) :
    Calls Try.prog 9 #[.slice p n c, .slice q m d] w fun e w' => e = .returned (.bool false) ∧ w = w' := by
  have hb : (((n : Nat) : Int) != ((m : Nat) : Int)) = true := by rw [bne_iff_ne]; omega
  go_enter Try.func9, Try.ntmps9
  go_wp2
  go_ret
  exact ⟨rfl, rfl⟩

set_option maxHeartbeats 1000000 in
theorem same_zero (p q : Option Addr) (c d : Nat) (w : World) :
    Calls Try.prog 9 #[.slice p 0 c, .slice q 0 d] w fun e w' => e = .returned (.bool true) ∧ w = w' := by
  go_enter Try.func9, Try.ntmps9
  go_wp2
  refine wp_loop_rounds 1 ?_
  rw [rounds_succ]
  go_wp2
  go_ret
  exact ⟨rfl, rfl⟩

set_option maxHeartbeats 1000000 in
theorem same_pos (b o n c b2 o2 d : Nat) (xs ys : List Int) (w : World) (hx : IIn w .u64 (some ⟨b, o, none⟩) n xs) (hy : IIn w .u64 (some ⟨b2, o2, none⟩) n ys) (h0 : 0 < n) (hn : n ≤ 140737488355328) :
    Calls Try.prog 9 #[.slice (some ⟨b, o, none⟩) n c, .slice (some ⟨b2, o2, none⟩) n d] w fun e w' => e = .returned (.bool (decide (xs = ys))) ∧ ∃ nq, w' = w.drewN nq := by
  have hb : (((n : Nat) : Int) != ((n : Nat) : Int)) = false := by simp
  obtain ⟨b', o', e, hcx⟩ := hx.cells h0
  simp only [Option.some.injEq, Addr.mk.injEq, and_true] at e
  obtain ⟨rfl, rfl⟩ := e
  obtain ⟨b', o', e, hcy⟩ := hy.cells h0
  simp only [Option.some.injEq, Addr.mk.injEq, and_true] at e
  obtain ⟨rfl, rfl⟩ := e
  have HX : Hid (xs.length = n) := hx.len
  have HY : Hid (ys.length = n) := hy.len
  have HCX : Hid (∀ i (h : i < xs.length), w.cell? ⟨b, o + i, none⟩ = some (.int .u64 xs[i])) := hcx
  have HCY : Hid (∀ i (h : i < ys.length), w.cell? ⟨b2, o2 + i, none⟩ = some (.int .u64 ys[i])) := hcy
  clear hx hy hcx hcy
  go_enter Try.func9, Try.ntmps9
  go_wp2
  go_loopw [5] (fun i wr => ∃ k : Nat, k ≤ n ∧ i = .int .i64 k ∧ Hid (xs.take k = ys.take k) ∧ ∃ nq, wr = w.drewN nq) (fun i _ => n - (intOf i).toNat)
  case atStart => exact ⟨0, Nat.zero_le _, rfl, rfl, 0, rfl⟩
  case round =>
    obtain ⟨k, hk, rfl, HT, nq, hwr⟩ := hrel
    subst hwr
    by_cases hlt : k < n
    · have hkx : k < xs.length := by rw [HX.out]; exact hlt
      have hky : k < ys.length := by rw [HY.out]; exact hlt
      have h1 := HCX.out k hkx
      have h2 := HCY.out k hky
      have i1 : (k : Int) < (n : Int) := by omega
      have HT2 : Hid (xs[k] = ys[k] → xs.take (k + 1) = ys.take (k + 1)) := by
        intro e
        rw [List.take_succ_eq_append_getElem hkx, List.take_succ_eq_append_getElem hky, e, HT.out]
      have HT3 : Hid (¬ xs[k] = ys[k] → ¬ xs = ys) := by
        intro e e2
        subst e2
        exact e rfl
      generalize xs[k] = x at *
      generalize ys[k] = y at *
      cases hz : (x != y)
      · go_wp2
        go_quiet (fail)
        go_wp2
        go_roundw
        case rel => exact ⟨k + 1, by omega, by go_num, HT2.out (by simpa using hz), _, rfl⟩
        case measure => simp [intOf]; omega
      · go_wp2
        go_quiet (fail)
        go_wp2
        go_ret
        exact ⟨by rw [decide_eq_false (HT3.out (by simpa using hz))]; rfl, _, World.drewN_drewN _ _ _⟩
    · have e : xs = ys := by
        have := HT.out
        rw [List.take_of_length_le (by rw [HX.out]; omega), List.take_of_length_le (by rw [HY.out]; omega)] at this
        exact this
      have HE : Hid (_) := e
      clear e
      go_wp2
      go_ret
      exact ⟨by rw [decide_eq_true HE.out]; rfl, _, rfl⟩

theorem same_any (p q : Option Addr) (n c m d : Nat) (xs ys : List Int) (w : World) (hx : IIn w .u64 p n xs) (hy : IIn w .u64 q m ys) (hn : n ≤ 140737488355328) :
    Calls Try.prog 9 #[.slice p n c, .slice q m d] w fun e w' => e = .returned (.bool (decide (xs = ys))) ∧ ∃ nq, w' = w.drewN nq := by
  by_cases hnm : n = m
  · subst hnm
    by_cases h0 : 0 < n
    · obtain ⟨b, o, rfl, _⟩ := hx.cells h0
      obtain ⟨b2, o2, rfl, _⟩ := hy.cells h0
      exact same_pos b o n c b2 o2 d xs ys w hx hy h0 hn
    · obtain rfl : n = 0 := by omega
      obtain rfl : xs = [] := List.eq_nil_of_length_eq_zero hx.len
      obtain rfl : ys = [] := List.eq_nil_of_length_eq_zero hy.len
      refine (same_zero p q c d w).mono ?_
      rintro e w' ⟨rfl, rfl⟩
      exact ⟨rfl, 0, rfl⟩
  · refine (same_unlike p q n c m d w hnm).mono ?_
    rintro e w' ⟨rfl, rfl⟩
    have hne : ¬ xs = ys := fun e => hnm (by rw [← hx.len, ← hy.len, e])
    exact ⟨by rw [decide_eq_false hne], 0, rfl⟩

/-- string(b) of a []byte that lies so -/
theorem BIn.str {w : World} {p : Option Addr} {n : Nat} {xs : List Int} (h : BIn w p n xs) (c : Nat) :
    (convert 22 9 (.slice p n c)).run Try.prog w = .ok (.string (strOfNums xs)) w := by
  by_cases h0 : 0 < n
  · obtain ⟨b, o, rfl, hc⟩ := h.cells h0
    exact run_convert_bytes_arg w 22 5 Try.underlying22 Try.underlying5 b o n c xs h.len hc 9 Try.underlying9
  · obtain rfl : n = 0 := by omega
    obtain rfl : xs = [] := List.eq_nil_of_length_eq_zero h.len
    rw [run_convert_bytes_string w 22 9 5 _ 0 c Try.underlying22 Try.underlying5 Try.underlying9]
    cases p <;> simp [Conv.bytesToString, loadCells]
    all_goals rfl

/-- what is owned is read -/
theorem own_in {w : World} {base : Nat} {v : Value} {n : Nat} {xs : List Int} (h : w.ownsRow base 5 1 v n (U8 xs)) (hb : Bytes xs) : ∃ p c, v = .slice p n c ∧ BIn w p n xs ∧ n ≤ c ∧ (p = none → c = 0) ∧ c ≤ maxLen := by
  have hl : xs.length = n := by have := h.1; simpa [U8] using this
  rcases h.2 with ⟨rfl, rfl⟩ | ⟨g, cap, cur, rfl, h1, hg, hnc, hcm, hsz, htake⟩
  · exact ⟨none, 0, rfl, ⟨hl, hb, fun h0 => absurd h0 (Nat.lt_irrefl 0)⟩, Nat.le_refl _, fun _ => rfl, Nat.zero_le _⟩
  · refine ⟨_, cap, rfl, ⟨hl, hb, fun h0 => ⟨g, 0, rfl, fun i hi => ?_⟩⟩, hnc, (fun e => by cases e), hcm⟩
    have := h.cellAt i (by omega)
    rw [Nat.zero_add, this]
    simp [U8, List.getD, List.getElem?_eq_getElem (show i < xs.length by omega)]

theorem own_in64 {w : World} {base : Nat} {v : Value} {n : Nat} {xs : List Int} (h : w.ownsRow base 44 1 v n (U64 xs)) : ∃ p c, v = .slice p n c ∧ IIn w .u64 p n xs ∧ n ≤ c := by
  have hl : xs.length = n := by have := h.1; simpa [U64] using this
  rcases h.2 with ⟨rfl, rfl⟩ | ⟨g, cap, cur, rfl, h1, hg, hnc, hcm, hsz, htake⟩
  · exact ⟨none, 0, rfl, ⟨hl, fun h0 => absurd h0 (Nat.lt_irrefl 0)⟩, Nat.le_refl _⟩
  · refine ⟨_, cap, rfl, ⟨hl, fun h0 => ⟨g, 0, rfl, fun i hi => ?_⟩⟩, hnc⟩
    have := h.cellAt i (by omega)
    rw [Nat.zero_add, this]
    simp [U64, List.getElem?_eq_getElem (show i < xs.length by omega)]

end Go.Proofs.Ytdfnpapnoedpkab
