/-
  Layer 14: all.
-/
import Derived.Test.YtkffmglcllhbmaaRh
namespace Go.Proofs.Ytkffmglcllhbmaa
open Go.RowKit

section
variable {w w' W : World} {G : Nat → Prop} {R n : Nat} {v u : Value} {a : Lk} {es : List Er} {L : List En} {F : Ft}
theorem RL.room (h : RL w G R v a es) : ∃ p c, v = .slice p a.L.length c ∧ a.L.length ≤ c ∧ (p = none → c = 0) := by
  rcases h.row.2 with ⟨rfl, e⟩ | ⟨g, cap, cur, rfl, _, _, hcap, _⟩
  · rw [h.len] at e
    exact ⟨none, 0, by rw [e], by omega, fun _ => rfl⟩
  · rw [h.len] at hcap ⊢
    exact ⟨_, cap, rfl, hcap, fun e => by cases e⟩
theorem RL.einK {p : Option Addr} {c : Nat} (h : RL w G R (.slice p a.L.length c) a es) {k : Nat} (hk : k ≤ a.L.length) : EIn w (.slice p k c) k a.L := by
  obtain ⟨p', c', e, _, h2⟩ := h.ein
  simp only [Value.slice.injEq, true_and] at e
  obtain ⟨rfl, rfl⟩ := e
  exact h2 k hk

set_option maxHeartbeats 4000000 in
set_option maxRecDepth 100000 in
theorem all_at (h : PL w F n a) (hr : RL w G R v a es) (hn : n ≤ 60) (m : Int) : Calls Try.prog 51 #[qp F.Q, qp R, .int .i64 m] w fun e w' => e = .returned (.bool true) ∧ Below w.heap.size w w' := by
  have hl : a.L.length ≤ 60 := Nat.le_trans h.len hn
  have HM : Hid (mostN 60 a.L.length = a.L.length) := by unfold Hid mostN; omega
  have HS : Hid (∀ e ∈ a.L, e.s.length ≤ 64) := fun e he => h.ok.slen he
  have HP : Hid (PL w F n a) := h
  obtain ⟨p, c, rfl, hc, hpc⟩ := hr.room
  have HR : Hid (RL w G R (.slice p a.L.length c) a es) := hr
  clear h hr
  by_cases h1 : m < 1
  · have h2 : (1 : Int) ≤ 50 := by decide
    obtain ⟨mm, hmm⟩ : ∃ mm : Nat, mm = min 1 a.L.length := ⟨_, rfl⟩
    have HMK : Hid (mostN 1 a.L.length = mm) := by unfold Hid mostN; omega
    have HL : Hid (mm ≤ a.L.length) := by unfold Hid; omega
    have HX : Hid ((1 : Int) ≤ (a.L.length : Int) ∧ (mm : Int) = 1 ∨ ¬ (1 : Int) ≤ (a.L.length : Int) ∧ mm = a.L.length) := by unfold Hid; omega
    clear hmm
    go_enter Try.func51, Try.ntmps51
    go_wp2_with fail
    refine (entries_at HP.out (by omega) 60).mono ?_
    rintro e w1 ⟨v1, E1, rfl, hE⟩
    rw [HM.out] at hE
    have HB1 : Hid (Below w.heap.size w w1) := hE.below
    have H1 : Hid (EIn w1 v1 a.L.length a.L) := hE.ein (Nat.le_refl _)
    obtain ⟨p1, c1, rfl, -⟩ := H1.out.shape
    clear hE
    go_wp2_with fail
    refine (entries_at (HP.out.later HB1.out) (by omega) 1).mono ?_
    rintro e w2 ⟨v2, E2, rfl, hE⟩
    rw [HMK.out] at hE
    have HB2 : Hid (Below w1.heap.size w1 w2) := hE.below
    have H2 : Hid (EIn w2 v2 mm a.L) := hE.ein HL.out
    obtain ⟨p2, c2, rfl, -⟩ := H2.out.shape
    clear hE
    go_wp2_with fail
    refine (entries_at (HP.out.later (below_then HB1.out HB2.out)) (by omega) 60).mono ?_
    rintro e w3 ⟨v3, E3, rfl, hE⟩
    rw [HM.out] at hE
    have HB3 : Hid (Below w2.heap.size w2 w3) := hE.below
    have H3 : Hid (EIn w3 v3 a.L.length a.L) := hE.ein (Nat.le_refl _)
    obtain ⟨p3, c3, rfl, -⟩ := H3.out.shape
    clear hE
    have HB : Hid (Below w.heap.size w w3) := below_then HB1.out (below_then HB2.out HB3.out)
    have HR3 : Hid (RL w3 G R (.slice p a.L.length c) a es) := HR.out.later HB.out
    have y2 : w3.cell? ⟨R, 2, none⟩ = some (.slice p a.L.length c) := HR3.out.c 2
    have y3 : w3.drew.cell? ⟨R, 2, none⟩ = some (.slice p a.L.length c) := y2
    have m1 : (mm : Int) ≤ (c : Int) := by have := HL.out; omega
    have m0 : (0 : Int) ≤ (mm : Int) := by omega
    have H2' : Hid (EIn w3 (.slice p2 mm c2) mm a.L) := H2.out.later HB3.out
    have H1' : Hid (EIn w3 (.slice p1 a.L.length c1) a.L.length a.L) := H1.out.later (below_then HB2.out HB3.out)
    have HRM : Hid (EIn w3 (.slice p mm c) mm a.L) := HR3.out.einK HL.out
    have HRA : Hid (EIn w3 (.slice p a.L.length c) a.L.length a.L) := HR3.out.einK (Nat.le_refl _)
    have hmk : mm ≤ 60 := by have := HL.out; omega
    clear H1 H2 HB1 HB2 HB3 HR HP HR3
    clear HM HMK HL
    have KH : Hid (a.L.length ≤ 10000 ∧ mm ≤ 10000) := by unfold Hid; omega
    generalize a.L = LL at *
    generalize LL.length = ln at *
    cases p with
    | none =>
      obtain rfl := hpc rfl
      obtain rfl : ln = 0 := by omega
      obtain rfl : mm = 0 := by omega
      have hle : ¬ (1 : Int) ≤ ((0 : Nat) : Int) := by omega
      clear HX
      go_wp2_with fail
      go_quiet ((go_at_call 65; first | exact Calls.quiet_of (sameE_is (H1'.out.later (below_drawn _)) (HRA.out.later (below_drawn _)) KH.out.1 HS.out) | exact Calls.quiet_of (sameE_is (H2'.out.later (below_drawn _)) (HRM.out.later (below_drawn _)) KH.out.2 HS.out) | exact Calls.quiet_of (sameE_is (H3.out.later (below_drawn _)) (HRA.out.later (below_drawn _)) KH.out.1 HS.out)))
      go_wp2
      go_ret
      exact ⟨rfl, below_then HB.out (below_drawn _)⟩
    | some ad =>
      rcases HX.out with ⟨hle, hmm⟩ | ⟨hle, hmm⟩
      · obtain rfl : mm = 1 := by omega
        clear HX hmm
        go_wp2_with fail
        go_quiet ((go_at_call 65; first | exact Calls.quiet_of (sameE_is (H1'.out.later (below_drawn _)) (HRA.out.later (below_drawn _)) KH.out.1 HS.out) | exact Calls.quiet_of (sameE_is (H2'.out.later (below_drawn _)) (HRM.out.later (below_drawn _)) KH.out.2 HS.out) | exact Calls.quiet_of (sameE_is (H3.out.later (below_drawn _)) (HRA.out.later (below_drawn _)) KH.out.1 HS.out)))
        go_wp2
        go_ret
        exact ⟨rfl, below_then HB.out (below_drawn _)⟩
      · subst hmm
        clear HX
        go_wp2_with fail
        go_quiet ((go_at_call 65; first | exact Calls.quiet_of (sameE_is (H1'.out.later (below_drawn _)) (HRA.out.later (below_drawn _)) KH.out.1 HS.out) | exact Calls.quiet_of (sameE_is (H2'.out.later (below_drawn _)) (HRM.out.later (below_drawn _)) KH.out.2 HS.out) | exact Calls.quiet_of (sameE_is (H3.out.later (below_drawn _)) (HRA.out.later (below_drawn _)) KH.out.1 HS.out)))
        go_wp2
        go_ret
        exact ⟨rfl, below_then HB.out (below_drawn _)⟩
  · by_cases h3 : m ≤ 50
    · obtain ⟨kk, rfl⟩ : ∃ kk : Nat, m = (kk : Int) := ⟨m.toNat, by omega⟩
      obtain ⟨mm, hmm⟩ : ∃ mm : Nat, mm = min kk a.L.length := ⟨_, rfl⟩
      have HMK : Hid (mostN (kk : Int) a.L.length = mm) := by unfold Hid mostN; omega
      have HL : Hid (mm ≤ a.L.length) := by unfold Hid; omega
      have HX : Hid (((kk : Int) : Int) ≤ (a.L.length : Int) ∧ (mm : Int) = (kk : Int) ∨ ¬ ((kk : Int) : Int) ≤ (a.L.length : Int) ∧ mm = a.L.length) := by unfold Hid; omega
      clear hmm
      go_enter Try.func51, Try.ntmps51
      go_wp2_with fail
      refine (entries_at HP.out (by omega) 60).mono ?_
      rintro e w1 ⟨v1, E1, rfl, hE⟩
      rw [HM.out] at hE
      have HB1 : Hid (Below w.heap.size w w1) := hE.below
      have H1 : Hid (EIn w1 v1 a.L.length a.L) := hE.ein (Nat.le_refl _)
      obtain ⟨p1, c1, rfl, -⟩ := H1.out.shape
      clear hE
      go_wp2_with fail
      refine (entries_at (HP.out.later HB1.out) (by omega) (kk : Int)).mono ?_
      rintro e w2 ⟨v2, E2, rfl, hE⟩
      rw [HMK.out] at hE
      have HB2 : Hid (Below w1.heap.size w1 w2) := hE.below
      have H2 : Hid (EIn w2 v2 mm a.L) := hE.ein HL.out
      obtain ⟨p2, c2, rfl, -⟩ := H2.out.shape
      clear hE
      go_wp2_with fail
      refine (entries_at (HP.out.later (below_then HB1.out HB2.out)) (by omega) 60).mono ?_
      rintro e w3 ⟨v3, E3, rfl, hE⟩
      rw [HM.out] at hE
      have HB3 : Hid (Below w2.heap.size w2 w3) := hE.below
      have H3 : Hid (EIn w3 v3 a.L.length a.L) := hE.ein (Nat.le_refl _)
      obtain ⟨p3, c3, rfl, -⟩ := H3.out.shape
      clear hE
      have HB : Hid (Below w.heap.size w w3) := below_then HB1.out (below_then HB2.out HB3.out)
      have HR3 : Hid (RL w3 G R (.slice p a.L.length c) a es) := HR.out.later HB.out
      have y2 : w3.cell? ⟨R, 2, none⟩ = some (.slice p a.L.length c) := HR3.out.c 2
      have y3 : w3.drew.cell? ⟨R, 2, none⟩ = some (.slice p a.L.length c) := y2
      have m1 : (mm : Int) ≤ (c : Int) := by have := HL.out; omega
      have m0 : (0 : Int) ≤ (mm : Int) := by omega
      have H2' : Hid (EIn w3 (.slice p2 mm c2) mm a.L) := H2.out.later HB3.out
      have H1' : Hid (EIn w3 (.slice p1 a.L.length c1) a.L.length a.L) := H1.out.later (below_then HB2.out HB3.out)
      have HRM : Hid (EIn w3 (.slice p mm c) mm a.L) := HR3.out.einK HL.out
      have HRA : Hid (EIn w3 (.slice p a.L.length c) a.L.length a.L) := HR3.out.einK (Nat.le_refl _)
      have hmk : mm ≤ 60 := by have := HL.out; omega
      clear H1 H2 HB1 HB2 HB3 HR HP HR3
      clear HM HMK HL
      have KH : Hid (a.L.length ≤ 10000 ∧ mm ≤ 10000) := by unfold Hid; omega
      generalize a.L = LL at *
      generalize LL.length = ln at *
      cases p with
      | none =>
        obtain rfl := hpc rfl
        obtain rfl : ln = 0 := by omega
        obtain rfl : mm = 0 := by omega
        have hle : ¬ ((kk : Int) : Int) ≤ ((0 : Nat) : Int) := by omega
        clear HX
        go_wp2_with fail
        go_quiet ((go_at_call 65; first | exact Calls.quiet_of (sameE_is (H1'.out.later (below_drawn _)) (HRA.out.later (below_drawn _)) KH.out.1 HS.out) | exact Calls.quiet_of (sameE_is (H2'.out.later (below_drawn _)) (HRM.out.later (below_drawn _)) KH.out.2 HS.out) | exact Calls.quiet_of (sameE_is (H3.out.later (below_drawn _)) (HRA.out.later (below_drawn _)) KH.out.1 HS.out)))
        go_wp2
        go_ret
        exact ⟨rfl, below_then HB.out (below_drawn _)⟩
      | some ad =>
        rcases HX.out with ⟨hle, hmm⟩ | ⟨hle, hmm⟩
        · obtain rfl : mm = kk := by omega
          clear HX hmm
          go_wp2_with fail
          go_quiet ((go_at_call 65; first | exact Calls.quiet_of (sameE_is (H1'.out.later (below_drawn _)) (HRA.out.later (below_drawn _)) KH.out.1 HS.out) | exact Calls.quiet_of (sameE_is (H2'.out.later (below_drawn _)) (HRM.out.later (below_drawn _)) KH.out.2 HS.out) | exact Calls.quiet_of (sameE_is (H3.out.later (below_drawn _)) (HRA.out.later (below_drawn _)) KH.out.1 HS.out)))
          go_wp2
          go_ret
          exact ⟨rfl, below_then HB.out (below_drawn _)⟩
        · subst hmm
          clear HX
          go_wp2_with fail
          go_quiet ((go_at_call 65; first | exact Calls.quiet_of (sameE_is (H1'.out.later (below_drawn _)) (HRA.out.later (below_drawn _)) KH.out.1 HS.out) | exact Calls.quiet_of (sameE_is (H2'.out.later (below_drawn _)) (HRM.out.later (below_drawn _)) KH.out.2 HS.out) | exact Calls.quiet_of (sameE_is (H3.out.later (below_drawn _)) (HRA.out.later (below_drawn _)) KH.out.1 HS.out)))
          go_wp2
          go_ret
          exact ⟨rfl, below_then HB.out (below_drawn _)⟩
    · have h4 : ¬ m ≤ 50 := h3
      obtain ⟨mm, hmm⟩ : ∃ mm : Nat, mm = min 50 a.L.length := ⟨_, rfl⟩
      have HMK : Hid (mostN 50 a.L.length = mm) := by unfold Hid mostN; omega
      have HL : Hid (mm ≤ a.L.length) := by unfold Hid; omega
      have HX : Hid ((50 : Int) ≤ (a.L.length : Int) ∧ (mm : Int) = 50 ∨ ¬ (50 : Int) ≤ (a.L.length : Int) ∧ mm = a.L.length) := by unfold Hid; omega
      clear hmm
      go_enter Try.func51, Try.ntmps51
      go_wp2_with fail
      refine (entries_at HP.out (by omega) 60).mono ?_
      rintro e w1 ⟨v1, E1, rfl, hE⟩
      rw [HM.out] at hE
      have HB1 : Hid (Below w.heap.size w w1) := hE.below
      have H1 : Hid (EIn w1 v1 a.L.length a.L) := hE.ein (Nat.le_refl _)
      obtain ⟨p1, c1, rfl, -⟩ := H1.out.shape
      clear hE
      go_wp2_with fail
      refine (entries_at (HP.out.later HB1.out) (by omega) 50).mono ?_
      rintro e w2 ⟨v2, E2, rfl, hE⟩
      rw [HMK.out] at hE
      have HB2 : Hid (Below w1.heap.size w1 w2) := hE.below
      have H2 : Hid (EIn w2 v2 mm a.L) := hE.ein HL.out
      obtain ⟨p2, c2, rfl, -⟩ := H2.out.shape
      clear hE
      go_wp2_with fail
      refine (entries_at (HP.out.later (below_then HB1.out HB2.out)) (by omega) 60).mono ?_
      rintro e w3 ⟨v3, E3, rfl, hE⟩
      rw [HM.out] at hE
      have HB3 : Hid (Below w2.heap.size w2 w3) := hE.below
      have H3 : Hid (EIn w3 v3 a.L.length a.L) := hE.ein (Nat.le_refl _)
      obtain ⟨p3, c3, rfl, -⟩ := H3.out.shape
      clear hE
      have HB : Hid (Below w.heap.size w w3) := below_then HB1.out (below_then HB2.out HB3.out)
      have HR3 : Hid (RL w3 G R (.slice p a.L.length c) a es) := HR.out.later HB.out
      have y2 : w3.cell? ⟨R, 2, none⟩ = some (.slice p a.L.length c) := HR3.out.c 2
      have y3 : w3.drew.cell? ⟨R, 2, none⟩ = some (.slice p a.L.length c) := y2
      have m1 : (mm : Int) ≤ (c : Int) := by have := HL.out; omega
      have m0 : (0 : Int) ≤ (mm : Int) := by omega
      have H2' : Hid (EIn w3 (.slice p2 mm c2) mm a.L) := H2.out.later HB3.out
      have H1' : Hid (EIn w3 (.slice p1 a.L.length c1) a.L.length a.L) := H1.out.later (below_then HB2.out HB3.out)
      have HRM : Hid (EIn w3 (.slice p mm c) mm a.L) := HR3.out.einK HL.out
      have HRA : Hid (EIn w3 (.slice p a.L.length c) a.L.length a.L) := HR3.out.einK (Nat.le_refl _)
      have hmk : mm ≤ 60 := by have := HL.out; omega
      clear H1 H2 HB1 HB2 HB3 HR HP HR3
      clear HM HMK HL
      have KH : Hid (a.L.length ≤ 10000 ∧ mm ≤ 10000) := by unfold Hid; omega
      generalize a.L = LL at *
      generalize LL.length = ln at *
      cases p with
      | none =>
        obtain rfl := hpc rfl
        obtain rfl : ln = 0 := by omega
        obtain rfl : mm = 0 := by omega
        have hle : ¬ (50 : Int) ≤ ((0 : Nat) : Int) := by omega
        clear HX
        go_wp2_with fail
        go_quiet ((go_at_call 65; first | exact Calls.quiet_of (sameE_is (H1'.out.later (below_drawn _)) (HRA.out.later (below_drawn _)) KH.out.1 HS.out) | exact Calls.quiet_of (sameE_is (H2'.out.later (below_drawn _)) (HRM.out.later (below_drawn _)) KH.out.2 HS.out) | exact Calls.quiet_of (sameE_is (H3.out.later (below_drawn _)) (HRA.out.later (below_drawn _)) KH.out.1 HS.out)))
        go_wp2
        go_ret
        exact ⟨rfl, below_then HB.out (below_drawn _)⟩
      | some ad =>
        rcases HX.out with ⟨hle, hmm⟩ | ⟨hle, hmm⟩
        · obtain rfl : mm = 50 := by omega
          clear HX hmm
          go_wp2_with fail
          go_quiet ((go_at_call 65; first | exact Calls.quiet_of (sameE_is (H1'.out.later (below_drawn _)) (HRA.out.later (below_drawn _)) KH.out.1 HS.out) | exact Calls.quiet_of (sameE_is (H2'.out.later (below_drawn _)) (HRM.out.later (below_drawn _)) KH.out.2 HS.out) | exact Calls.quiet_of (sameE_is (H3.out.later (below_drawn _)) (HRA.out.later (below_drawn _)) KH.out.1 HS.out)))
          go_wp2
          go_ret
          exact ⟨rfl, below_then HB.out (below_drawn _)⟩
        · subst hmm
          clear HX
          go_wp2_with fail
          go_quiet ((go_at_call 65; first | exact Calls.quiet_of (sameE_is (H1'.out.later (below_drawn _)) (HRA.out.later (below_drawn _)) KH.out.1 HS.out) | exact Calls.quiet_of (sameE_is (H2'.out.later (below_drawn _)) (HRM.out.later (below_drawn _)) KH.out.2 HS.out) | exact Calls.quiet_of (sameE_is (H3.out.later (below_drawn _)) (HRA.out.later (below_drawn _)) KH.out.1 HS.out)))
          go_wp2
          go_ret
          exact ⟨rfl, below_then HB.out (below_drawn _)⟩
end
end Go.Proofs.Ytkffmglcllhbmaa
