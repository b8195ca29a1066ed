/-
  Contracts of layer 3, sixth part: the laws' own 'same'; the document's Span.
-/
import Derived.Test.YtbeffibcigaioaaRe
import Derived.Deep.QuietTactic
import Derived.BigQuiet
import Derived.Laws.AppendOwn
namespace Go.Proofs.Ytbeffibcigaioaa
open Go.RowKit

/-- how a slice of ints lies that is read -/
structure IIn (w : World) (k : IntKind) (p : Option Addr) (n : Nat) (ss : List Int) : Prop where
  len : ss.length = n
  cells : 0 < n → ∃ b o, p = some ⟨b, o, none⟩ ∧ ∀ i (h : i < ss.length), w.cell? ⟨b, o + i, none⟩ = some (.int k ss[i])

theorem IIn.later {w w' : World} {k : IntKind} {p : Option Addr} {n : Nat} {ss : List Int} (h : IIn w k p n ss) (hb : Below w.heap.size w w') : IIn w' k p n ss := by
  refine ⟨h.len, fun h0 => ?_⟩
  obtain ⟨b, o, rfl, hc⟩ := h.cells h0
  refine ⟨b, o, rfl, fun i hi => ?_⟩
  rw [hb.cell (p := ⟨b, o + i, none⟩) (World.block_lt_of_cell? w ⟨b, o + i, none⟩ (hc i hi))]
  exact hc i hi

set_option maxHeartbeats 1000000 in
theorem same_unlike (p q : Option Addr) (n c m d : Nat) (w : World) (hne : ¬ n = m) :
    Calls Try.prog 12 #[.slice p n c, .slice q m d] w fun e w' => e = .returned (.bool false) ∧ w = w' := by
  have hb : (((n : Nat) : Int) != ((m : Nat) : Int)) = true := by rw [bne_iff_ne]; omega
  go_enter Try.func12, Try.ntmps12
  go_wp2
  go_ret
  exact ⟨rfl, rfl⟩

set_option maxHeartbeats 1000000 in
theorem same_zero (p q : Option Addr) (c d : Nat) (w : World) :
    Calls Try.prog 12 #[.slice p 0 c, .slice q 0 d] w fun e w' => e = .returned (.bool true) ∧ w = w' := by
  go_enter Try.func12, Try.ntmps12
  go_wp2
  refine wp_loop_rounds 1 ?_
  rw [rounds_succ]
  go_wp2
  go_ret
  exact ⟨rfl, rfl⟩

set_option maxHeartbeats 1000000 in
theorem same_pos (b o n c b2 o2 d : Nat) (xs ys : List Int) (w : World) (hx : IIn w .u64 (some ⟨b, o, none⟩) n xs) (hy : IIn w .u64 (some ⟨b2, o2, none⟩) n ys) (h0 : 0 < n) (hn : n ≤ 140737488355328) :
    Calls Try.prog 12 #[.slice (some ⟨b, o, none⟩) n c, .slice (some ⟨b2, o2, none⟩) n d] w fun e w' => e = .returned (.bool (decide (xs = ys))) ∧ ∃ nq, w' = w.drewN nq := by
  have hb : (((n : Nat) : Int) != ((n : Nat) : Int)) = false := by simp
  obtain ⟨b', o', e, hcx⟩ := hx.cells h0
  simp only [Option.some.injEq, Addr.mk.injEq, and_true] at e
  obtain ⟨rfl, rfl⟩ := e
  obtain ⟨b', o', e, hcy⟩ := hy.cells h0
  simp only [Option.some.injEq, Addr.mk.injEq, and_true] at e
  obtain ⟨rfl, rfl⟩ := e
  have HX : Hid (xs.length = n) := hx.len
  have HY : Hid (ys.length = n) := hy.len
  have HCX : Hid (∀ i (h : i < xs.length), w.cell? ⟨b, o + i, none⟩ = some (.int .u64 xs[i])) := hcx
  have HCY : Hid (∀ i (h : i < ys.length), w.cell? ⟨b2, o2 + i, none⟩ = some (.int .u64 ys[i])) := hcy
  clear hx hy hcx hcy
  go_enter Try.func12, Try.ntmps12
  go_wp2
  go_loopw [13] (fun i wr => ∃ k : Nat, k ≤ n ∧ i = .int .i64 k ∧ Hid (xs.take k = ys.take k) ∧ ∃ nq, wr = w.drewN nq) (fun i _ => n - (intOf i).toNat)
  case atStart => exact ⟨0, Nat.zero_le _, rfl, rfl, 0, rfl⟩
  case round =>
    obtain ⟨k, hk, rfl, HT, nq, hwr⟩ := hrel
    subst hwr
    by_cases hlt : k < n
    · have hkx : k < xs.length := by rw [HX.out]; exact hlt
      have hky : k < ys.length := by rw [HY.out]; exact hlt
      have h1 := HCX.out k hkx
      have h2 := HCY.out k hky
      have i1 : (k : Int) < (n : Int) := by omega
      have HT2 : Hid (xs[k] = ys[k] → xs.take (k + 1) = ys.take (k + 1)) := by
        intro e
        rw [List.take_succ_eq_append_getElem hkx, List.take_succ_eq_append_getElem hky, e, HT.out]
      have HT3 : Hid (¬ xs[k] = ys[k] → ¬ xs = ys) := by
        intro e e2
        subst e2
        exact e rfl
      generalize xs[k] = x at *
      generalize ys[k] = y at *
      cases hz : (x != y)
      · go_wp2
        go_quiet (fail)
        go_wp2
        go_roundw
        case rel => exact ⟨k + 1, by omega, by go_num, HT2.out (by simpa using hz), _, rfl⟩
        case measure => simp [intOf]; omega
      · go_wp2
        go_quiet (fail)
        go_wp2
        go_ret
        exact ⟨by rw [decide_eq_false (HT3.out (by simpa using hz))]; rfl, _, World.drewN_drewN _ _ _⟩
    · have e : xs = ys := by
        have := HT.out
        rw [List.take_of_length_le (by rw [HX.out]; omega), List.take_of_length_le (by rw [HY.out]; omega)] at this
        exact this
      have HE : Hid (_) := e
      clear e
      go_wp2
      go_ret
      exact ⟨by rw [decide_eq_true HE.out]; rfl, _, rfl⟩

theorem same_any (p q : Option Addr) (n c m d : Nat) (xs ys : List Int) (w : World) (hx : IIn w .u64 p n xs) (hy : IIn w .u64 q m ys) (hn : n ≤ 140737488355328) :
    Calls Try.prog 12 #[.slice p n c, .slice q m d] w fun e w' => e = .returned (.bool (decide (xs = ys))) ∧ ∃ nq, w' = w.drewN nq := by
  by_cases hnm : n = m
  · subst hnm
    by_cases h0 : 0 < n
    · obtain ⟨b, o, rfl, _⟩ := hx.cells h0
      obtain ⟨b2, o2, rfl, _⟩ := hy.cells h0
      exact same_pos b o n c b2 o2 d xs ys w hx hy h0 hn
    · obtain rfl : n = 0 := by omega
      obtain rfl : xs = [] := List.eq_nil_of_length_eq_zero hx.len
      obtain rfl : ys = [] := List.eq_nil_of_length_eq_zero hy.len
      refine (same_zero p q c d w).mono ?_
      rintro e w' ⟨rfl, rfl⟩
      exact ⟨rfl, 0, rfl⟩
  · refine (same_unlike p q n c m d w hnm).mono ?_
    rintro e w' ⟨rfl, rfl⟩
    have hne : ¬ xs = ys := fun e => hnm (by rw [← hx.len, ← hy.len, e])
    exact ⟨by rw [decide_eq_false hne], 0, rfl⟩

theorem own_in64 {w : World} {base : Nat} {v : Value} {n : Nat} {xs : List Int} (h : w.ownsRow base 22 1 v n (V64 xs)) : ∃ p c, v = .slice p n c ∧ IIn w .u64 p n xs ∧ n ≤ c := by
  have hl : xs.length = n := by have := h.1; simpa [V64] using this
  rcases h.2 with ⟨rfl, rfl⟩ | ⟨g, cap, cur, rfl, h1, hg, hnc, hcm, hsz, htake⟩
  · exact ⟨none, 0, rfl, ⟨hl, fun h0 => absurd h0 (Nat.lt_irrefl 0)⟩, Nat.le_refl _⟩
  · refine ⟨_, cap, rfl, ⟨hl, fun h0 => ⟨g, 0, rfl, fun i hi => ?_⟩⟩, hnc⟩
    have := h.cellAt i (by omega)
    rw [Nat.zero_add, this]
    simp [V64, List.getElem?_eq_getElem (show i < xs.length by omega)]


theorem one_u64 (x : Int) : ∀ v ∈ [Value.int .u64 x], v.oneCell' = true := by
  intro u hu; obtain rfl := List.mem_singleton.1 hu; rfl

set_option maxHeartbeats 1000000 in
/-- The document's Span: a list of its own with the positions. -/
theorem rspan_any (t e : Int) (ht0 : 0 ≤ t) (ht1 : t < 18446744073709551616) (he0 : 0 ≤ e) (he1 : e < 18446744073709551616) (w : World) :
    Calls Try.prog 9 #[.int .u64 t, .int .u64 e] w fun e' w' => ∃ v, e' = .returned v ∧ w'.ownsRow w.heap.size 22 1 v (spanN t e) (V64 (spanI t e)) ∧ Below w.heap.size w w' := by
  obtain ⟨i0, hi, hz0, hz1, hz2⟩ := info_parts info22
  have hN : spanN t e = min 64 (e - t).toNat := rfl
  generalize hM : spanN t e = M at *
  have HM : Hid (spanN t e = M) := hM
  clear hM
  go_enter Try.func9, Try.ntmps9
  go_wp2
  go_loopw [5, 6] (fun v p wr => ∃ k : Nat, k ≤ M ∧ p = .int .u64 (t + k) ∧ wr.ownsRow w.heap.size 22 1 v k (V64 (upto t k)) ∧ Below w.heap.size w wr) (fun _ p _ => M - (intOf p - t).toNat)
  case atStart => exact ⟨0, Nat.zero_le _, by simp, World.ownsRow_nil _ _ _ _, Below.refl _ _⟩
  case round =>
    obtain ⟨k, hk, rfl, hown, hb⟩ := hrel
    obtain ⟨q, c, rfl, _, _⟩ := own_in64 hown
    have HO : Hid (wr.ownsRow w.heap.size 22 1 (.slice q k c) k (V64 (upto t k))) := hown
    have HB : Hid (Below w.heap.size w wr) := hb
    clear hown hb
    by_cases hlt : k < M
    · have c1 : t + (k : Int) < e := by omega
      have c2 : (k : Int) < 64 := by omega
      have w1 : IntKind.u64.wrap (t + (k : Int) + 1) = t + (k : Int) + 1 := wrap_u (by omega) (by omega)
      have hk64 : k < 64 := by omega
      clear hN
      go_wp2_with (at_builtin; refine wpList_append_own _ rfl (.tmp 18) (.tmp 20) 24 rfl w.heap.size 22 i0 (.int .u64 0) 1 8 Try.underlying24 hi hz0 hz1 hz2 rfl (by decide) _ k (V64 (upto t k)) rfl (HO.out.alloc _) ⟨wr.heap.size, 0, none⟩ 1 1 [.int .u64 (t + (k : Int))] rfl rfl (cell_one_new _ _ _) (one_u64 _) (by unfold maxLen; omega) (by omega) (by have := HB.out.size; simp; omega) ?_)
      intro v' w1 hown1 hgrow1 _
      have R1 : w1.ownsRow w.heap.size 22 1 v' (k + 1) (V64 (upto t (k + 1))) := by
        rw [upto_succ]
        simpa [V64] using hown1
      have R2 : Below w.heap.size w w1 := (HB.out.alloc HB.out.size _).grown hgrow1 (by have := HB.out.size; simp; omega) (fun g hg => (HO.out.lt g hg).1)
      have HR1 : Hid (w1.ownsRow w.heap.size 22 1 v' (k + 1) (V64 (upto t (k + 1)))) := R1
      have HR2 : Hid (Below w.heap.size w w1) := R2
      clear hown1 hgrow1 R1 R2 HO HB
      go_wp2
      go_roundw
      case rel => exact ⟨k + 1, by omega, by congr 1; omega, HR1.out, HR2.out⟩
      case measure => simp only [intOf]; omega
    · obtain rfl : k = M := by omega
      have HE : Hid (upto t k = spanI t e) := by show _ = _; rw [← HM.out]; rfl
      by_cases c1 : t + (k : Int) < e
      · have c2 : ¬ (k : Int) < 64 := by omega
        clear hN
        go_wp2
        go_ret
        exact ⟨_, rfl, by rw [← HE.out]; exact HO.out, HB.out⟩
      · clear hN
        go_wp2
        go_ret
        exact ⟨_, rfl, by rw [← HE.out]; exact HO.out, HB.out⟩

end Go.Proofs.Ytbeffibcigaioaa
