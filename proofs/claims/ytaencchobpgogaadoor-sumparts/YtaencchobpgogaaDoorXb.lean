/-
  Contracts of the statements' own helpers: cut.
-/
import Derived.Test.YtaencchobpgogaaDoorXa
import Derived.Deep.RegionHeld3
namespace Go.Proofs.YtaencchobpgogaaDoor
open Go.RowKit

/-- what cut makes of parts -/
def cutL (ls : List (List Int)) : List (List Int) := (ls.take 40).map fun l => l.take 3000

/-- how cut's list stands -/
structure Cut (w wr : World) (v : Value) (j : Nat) (us : List Value) (ls : List (List Int)) : Prop where
  own : wr.ownsRow w.heap.size 25 1 v j us
  len : us.length = j
  parts : ∀ i (h : i < us.length) (h2 : i < ls.length), SIn w us[i] (ls[i].take 3000)
  below : Below w.heap.size w wr

theorem SIn.cut {w : World} {p : Option Addr} {n c : Nat} {xs : List Int} (h : SIn w (.slice p n c) xs) : SIn w (.slice p (min n 3000) c) (xs.take 3000) := by
  obtain ⟨p', n', c', e, h1, h2, h3⟩ := h
  cases e
  refine ⟨p, min n 3000, c, rfl, ?_, by omega, h3⟩
  have := h1.take (min n 3000) (by omega)
  have e2 : xs.take (min n 3000) = xs.take 3000 := by
    rw [← h1.len, Nat.min_comm, ← List.take_eq_take_min]
  rw [e2] at this
  exact this

theorem Cut.push {w wr w1 : World} {v v1 : Value} {j : Nat} {us : List Value} {ls : List (List Int)} {u : Value} (h : Cut w wr v j us ls) (hj : j < ls.length) (hu : SIn w u (ls[j].take 3000))
    (ho : w1.ownsRow w.heap.size 25 1 v1 (j + 1) (us ++ [u])) (hb : Below w.heap.size w w1) : Cut w w1 v1 (j + 1) (us ++ [u]) ls := by
  refine ⟨ho, by rw [List.length_append, h.len]; rfl, fun i h1 h2 => ?_, hb⟩
  by_cases hi : i < us.length
  · rw [List.getElem_append_left hi]
    exact h.parts i hi h2
  · have e : i = j := by rw [List.length_append, h.len] at h1; simp at h1; have := h.len; omega
    subst e
    rw [List.getElem_append_right (by omega)]
    simp only [h.len, Nat.sub_self, List.getElem_cons_zero]
    exact hu

set_option maxHeartbeats 4000000 in
theorem cut_pos (b o n c : Nat) (vs : List Value) (ls : List (List Int)) (w : World) (hP : PIn w (some ⟨b, o, none⟩) n vs ls) (h0 : 0 < n) (hnb : n ≤ 140737488355328) :
    Calls Tryd.prog 14 #[.slice (some ⟨b, o, none⟩) n c] w fun e w' => ∃ v us, e = .returned v ∧ Cut w w' v (min n 40) us ls := by
  obtain ⟨i25, hi25, hz250, hz251, hz252⟩ := info_parts info25
  have HP : Hid (PIn w (some ⟨b, o, none⟩) n vs ls) := hP
  have HV : Hid (vs.length = n) := hP.len
  have HL : Hid (ls.length = n) := hP.len2
  clear hP
  go_enter Tryd.func14, Tryd.ntmps14
  go_wp2
  go_loopw [3, 4] (fun v i wr => ∃ (j : Nat) (us : List Value), j ≤ n ∧ j ≤ 40 ∧ i = .int .i64 j ∧ Cut w wr v j us ls) (fun _ i _ => n - (intOf i).toNat)
  case atStart => exact ⟨0, [], Nat.zero_le _, by omega, rfl, World.ownsRow_nil _ _ _ _, rfl, fun _ h => absurd h (Nat.not_lt_zero _), Below.refl _ _⟩
  case round =>
    obtain ⟨j, us, hj, hj40, rfl, hC⟩ := hrel
    have HC : Hid (Cut w wr u3 j us ls) := hC
    clear hC
    by_cases hlt : j < n ∧ j < 40
    · obtain ⟨hl1, hl2⟩ := hlt
      have hjv : j < vs.length := by rw [HV.out]; exact hl1
      have hjl : j < ls.length := by rw [HL.out]; exact hl1
      obtain ⟨b', o', e, hcs⟩ := HP.out.cells h0
      simp only [Option.some.injEq, Addr.mk.injEq, and_true] at e
      obtain ⟨rfl, rfl⟩ := e
      have hS := HP.out.parts j hjv hjl
      have hc0 := hcs j hjv
      obtain ⟨p1, n1, c1, e1, f1, f2, f3⟩ := hS
      rw [e1] at hc0
      have HU : Hid (SIn w (.slice p1 (min n1 3000) c1) (ls[j].take 3000)) := SIn.cut ⟨p1, n1, c1, rfl, f1, f2, f3⟩
      have hbb : b < w.heap.size := World.block_lt_of_cell? w _ hc0
      have d0 : wr.cell? ⟨b, o + j, none⟩ = some (.slice p1 n1 c1) := by
        rw [HC.out.below.cell (p := ⟨b, o + j, none⟩) hbb]
        exact hc0
      obtain ⟨m, hm⟩ : ∃ m, m = min n1 3000 := ⟨_, rfl⟩
      rw [← hm] at HU
      have d1 : wr.drew.cell? ⟨b, o + j, none⟩ = some (.slice p1 n1 c1) := d0
      have d2 : (wr.drew.alloc (.cells #[.slice p1 m c1] 25)).cell? ⟨b, o + j, none⟩ = some (.slice p1 n1 c1) := Lib.cell?_alloc_some _ d1
      have HK : Hid (∀ w1 : World, (wr.drew.alloc (.cells #[.slice p1 m c1] 25)).grownBy w1 u3.ownBlock → w1.cell? ⟨b, o + j, none⟩ = some (.slice p1 n1 c1) ∧ Below w.heap.size w w1) := by
        intro w1 hg
        have hlo : ∀ k, u3.ownBlock = some k → w.heap.size ≤ k := fun k hk => (HC.out.own.lt k hk).1
        have hb1 : Below w.heap.size w w1 := ((HC.out.below.drew).alloc HC.out.below.size _).grown hg (by have := HC.out.below.size; simp; omega) hlo
        refine ⟨?_, hb1⟩
        rw [hb1.cell (p := ⟨b, o + j, none⟩) hbb]
        exact hc0
      have HO : Hid ((wr.drew.alloc (.cells #[.slice p1 m c1] 25)).ownsRow w.heap.size 25 1 u3 j us) := HC.out.own.drew.alloc _
      have HS : Hid (w.heap.size ≤ wr.heap.size) := HC.out.below.size
      have j1 : (j : Int) < (n : Int) := by omega
      have j0 : (0 : Int) ≤ (j : Int) := by omega
      have j2 : (j : Int) < 40 := by omega
      clear hcs e1 hc0
      cases p1 with
      | none =>
        have hcz : c1 = 0 := f3 rfl
        have hnz : n1 = 0 := by omega
        subst hcz hnz
        have hmz : m = 0 := by omega
        subst hmz
        clear f1 f2 f3 hm
        go_wp2
        go_region_held3 (fun w' => w'.cell? ⟨b, o + j, none⟩ = some (.slice none 0 0)) (first | exact d1 | exact d2 | exact hk) (first | (refine step_append_own (by rfl) _ _ 38 (by rfl) w.heap.size 25 i25 (.slice none 0 0) 1 24 Tryd.underlying38 hi25 hz250 hz251 hz252 rfl (by decide) u3 j us (by rfl) HO.out ⟨wr.heap.size, 0, none⟩ 1 1 [.slice none 0 0] (by rfl) (by rfl) (cell_one_new _ _ _) (one_slice _ _ _) (by unfold maxLen; omega) (by omega) (by have := HS.out; simp; omega) ?_; intro v1 w1 hown1 hgrow1; have hk := (HK.out w1 hgrow1).1))
        have HR : Hid (Cut w w1 v1 (j + 1) (us ++ [.slice none 0 0]) ls) := HC.out.push hjl HU.out hown1 (HK.out w1 hgrow1).2
        clear hown1 hgrow1 hk d0 d1 d2
        go_wp2
        go_roundw
        case rel => exact ⟨j + 1, us ++ [.slice none 0 0], by omega, by omega, by go_num, HR.out⟩
        case measure => simp [intOf]; omega
      | some a =>
        have m0 : (0 : Int) ≤ (m : Int) := by omega
        have m1 : (m : Int) ≤ (c1 : Int) := by omega
        by_cases hs : n1 ≤ 3000
        · have hmz : m = n1 := by omega
          subst hmz
          have m2 : (m : Int) ≤ 3000 := by omega
          by_cases hcz : c1 = 0
          · subst hcz
            have hm0 : m = 0 := by omega
            subst hm0
            clear f1 f2 f3 hm m0 m1 m2
            go_wp2
            go_region_held3 (fun w' => w'.cell? ⟨b, o + j, none⟩ = some (.slice (some a) 0 0)) (first | exact d1 | exact d2 | exact hk) (first | (refine step_append_own (by rfl) _ _ 38 (by rfl) w.heap.size 25 i25 (.slice none 0 0) 1 24 Tryd.underlying38 hi25 hz250 hz251 hz252 rfl (by decide) u3 j us (by rfl) HO.out ⟨wr.heap.size, 0, none⟩ 1 1 [.slice (some a) 0 0] (by rfl) (by rfl) (cell_one_new _ _ _) (one_slice _ _ _) (by unfold maxLen; omega) (by omega) (by have := HS.out; simp; omega) ?_; intro v1 w1 hown1 hgrow1; have hk := (HK.out w1 hgrow1).1))
            have HR : Hid (Cut w w1 v1 (j + 1) (us ++ [.slice (some a) 0 0]) ls) := HC.out.push hjl HU.out hown1 (HK.out w1 hgrow1).2
            clear hown1 hgrow1 hk d0 d1 d2
            go_wp2
            go_roundw
            case rel => exact ⟨j + 1, us ++ [.slice (some a) 0 0], by omega, by omega, by go_num, HR.out⟩
            case measure => simp [intOf]; omega
          · have hmc : m ≤ c1 := f2
            clear f1 f2 f3 hm
            go_wp2
            have q1 : (m : Int) ≤ (c1 : Int) := by omega
            have q0 : (0 : Int) ≤ (m : Int) := by omega
            have q2 : (m : Int) ≤ 3000 := by omega
            have q3 : ¬ (3000 : Int) < (m : Int) := by omega
            have q4 : min (m : Int) 3000 = (m : Int) := by omega
            go_region_held3 (fun w' => w'.cell? ⟨b, o + j, none⟩ = some (.slice (some a) m c1)) (first | exact d1 | exact d2 | exact hk) (first | (refine step_append_own (by rfl) _ _ 38 (by rfl) w.heap.size 25 i25 (.slice none 0 0) 1 24 Tryd.underlying38 hi25 hz250 hz251 hz252 rfl (by decide) u3 j us (by rfl) HO.out ⟨wr.heap.size, 0, none⟩ 1 1 [.slice (some a) m c1] (by rfl) (by rfl) (cell_one_new _ _ _) (one_slice _ _ _) (by unfold maxLen; omega) (by omega) (by have := HS.out; simp; omega) ?_; intro v1 w1 hown1 hgrow1; have hk := (HK.out w1 hgrow1).1))
            have HR : Hid (Cut w w1 v1 (j + 1) (us ++ [.slice (some a) m c1]) ls) := HC.out.push hjl HU.out hown1 (HK.out w1 hgrow1).2
            clear hown1 hgrow1 hk d0 d1 d2
            go_wp2
            go_roundw
            case rel => exact ⟨j + 1, us ++ [.slice (some a) m c1], by omega, by omega, by go_num, HR.out⟩
            case measure => simp [intOf]; omega
        · have hmz : m = 3000 := by omega
          subst hmz
          have m2 : ¬ (n1 : Int) ≤ 3000 := by omega
          have m3 : (3000 : Int) ≤ (c1 : Int) := by omega
          clear f1 f2 f3 hm m0 m1
          go_wp2
          go_region_held3 (fun w' => w'.cell? ⟨b, o + j, none⟩ = some (.slice (some a) n1 c1)) (first | exact d1 | exact d2 | exact hk) (first | (refine step_append_own (by rfl) _ _ 38 (by rfl) w.heap.size 25 i25 (.slice none 0 0) 1 24 Tryd.underlying38 hi25 hz250 hz251 hz252 rfl (by decide) u3 j us (by rfl) HO.out ⟨wr.heap.size, 0, none⟩ 1 1 [.slice (some a) 3000 c1] (by rfl) (by rfl) (cell_one_new _ _ _) (one_slice _ _ _) (by unfold maxLen; omega) (by omega) (by have := HS.out; simp; omega) ?_; intro v1 w1 hown1 hgrow1; have hk := (HK.out w1 hgrow1).1))
          have HR : Hid (Cut w w1 v1 (j + 1) (us ++ [.slice (some a) 3000 c1]) ls) := HC.out.push hjl HU.out hown1 (HK.out w1 hgrow1).2
          clear hown1 hgrow1 hk d0 d1 d2
          go_wp2
          go_roundw
          case rel => exact ⟨j + 1, us ++ [.slice (some a) 3000 c1], by omega, by omega, by go_num, HR.out⟩
          case measure => simp [intOf]; omega
    · have HE : Hid (min n 40 = j) := by show _ = _; omega
      by_cases hl1 : j < n
      · have j1 : (j : Int) < (n : Int) := by omega
        have j2 : ¬ (j : Int) < 40 := by omega
        go_wp2
        go_ret
        exact ⟨u3, rfl, us, by rw [HE.out]; exact HC.out⟩
      · have j1 : ¬ (j : Int) < (n : Int) := by omega
        go_wp2
        go_ret
        exact ⟨u3, rfl, us, by rw [HE.out]; exact HC.out⟩

set_option maxHeartbeats 400000 in
theorem cut_zero (p : Option Addr) (c : Nat) (w : World) :
    Calls Tryd.prog 14 #[.slice p 0 c] w fun e w' => e = .returned (.slice none 0 0) ∧ w = w' := by
  go_enter Tryd.func14, Tryd.ntmps14
  go_wp2
  refine wp_loop_rounds 1 ?_
  rw [rounds_succ]
  go_wp2
  go_ret
  exact ⟨rfl, rfl⟩

/-- what the walk wants of cut: parts that lie, few and small -/
theorem cut_any (p : Option Addr) (n c : Nat) (vs : List Value) (ls : List (List Int)) (w : World) (h : PIn w p n vs ls) (hnb : n ≤ 140737488355328) :
    Calls Tryd.prog 14 #[.slice p n c] w fun e w' => ∃ q k d us xs, e = .returned (.slice q k d) ∧ PIn w' q k us xs ∧ k ≤ 40 ∧ (∀ l ∈ xs, l.length ≤ 3000) ∧ Below w.heap.size w w' := by
  by_cases h0 : 0 < n
  · obtain ⟨b, o, rfl, hc⟩ := h.cells h0
    refine (cut_pos b o n c vs ls w h h0 hnb).mono ?_
    rintro e w' ⟨v, us, rfl, hC⟩
    obtain ⟨k, hk⟩ : ∃ k, k = min n 40 := ⟨_, rfl⟩
    rw [← hk] at hC
    have hlen : (cutL ls).length = k := by simp [cutL, h.len2, hk, Nat.min_comm]
    have hget : ∀ i (h1 : i < (cutL ls).length) (h2 : i < ls.length), (cutL ls)[i] = ls[i].take 3000 := fun i h1 h2 => by simp [cutL]
    have parts : ∀ i (h1 : i < us.length) (h2 : i < (cutL ls).length), SIn w' us[i] (cutL ls)[i] := fun i h1 h2 => by
      have hi : i < ls.length := by rw [h.len2]; omega
      rw [hget i h2 hi]
      exact (hC.parts i h1 hi).later hC.below
    have small : ∀ l ∈ cutL ls, l.length ≤ 3000 := fun l hl => by
      obtain ⟨x, _, rfl⟩ := List.mem_map.1 hl
      rw [List.length_take]
      omega
    rcases hC.own.2 with ⟨h1, h2⟩ | ⟨g, cap, cur, h1, h2, h3, h4, h5, h6, h7⟩
    · subst h1
      exact ⟨none, k, 0, us, cutL ls, by rw [h2], ⟨hC.len, hlen, fun hh => by omega, parts⟩, by omega, small, hC.below⟩
    · refine ⟨some ⟨g, 0, none⟩, k, cap, us, cutL ls, by rw [h1], ⟨hC.len, hlen, fun hh => ⟨g, 0, rfl, fun i hi => ?_⟩, parts⟩, by omega, small, hC.below⟩
      have hrow := hC.own
      rw [h1] at hrow
      have := hC.len
      rw [Nat.zero_add, hrow.cellAt i (by omega), List.getElem?_eq_getElem hi]
  · obtain rfl : n = 0 := by omega
    refine (cut_zero p c w).mono ?_
    rintro e w' ⟨rfl, rfl⟩
    exact ⟨none, 0, 0, [], [], rfl, ⟨rfl, rfl, (fun h => by omega), (fun i h => by cases h)⟩, by omega, (fun l hl => by cases hl), Below.refl _ _⟩
end Go.Proofs.YtaencchobpgogaaDoor
