/-
  Layer 11: TicketRises.
-/
import Derived.Test.YtmmmgknlbkckdaaTi
import Derived.Deep.RegionHeld3
import Derived.LaidMore
namespace Go.Proofs.Ytmmmgknlbkckdaa
open Go.RowKit


theorem list_parts (ys : List Int) : ys = [] ∨ ∃ y zs, ys = y :: zs := by
  cases ys with
  | nil => exact .inl rfl
  | cons y zs => exact .inr ⟨y, zs, rfl⟩
theorem wrap_i {x : Int} (h0 : 0 ≤ x) (h1 : x < 9223372036854775808) : wrap64 x = x := by
  unfold wrap64
  omega
/-- how a []bool lies that is read -/
structure TIn (w : World) (p : Option Addr) (n : Nat) (f : Nat → Bool) : Prop where
  cells : 0 < n → ∃ b o, p = some ⟨b, o, none⟩ ∧ ∀ i, i < n → w.cell? ⟨b, o + i, none⟩ = some (.bool (f i))
theorem TIn.later {w w' : World} {p : Option Addr} {n : Nat} {f : Nat → Bool} (h : TIn w p n f) (hb : Below w.heap.size w w') : TIn w' p n f := by
  refine ⟨fun h0 => ?_⟩
  obtain ⟨b, o, rfl, hc⟩ := h.cells h0
  refine ⟨b, o, rfl, fun i hi => ?_⟩
  rw [hb.cell (p := ⟨b, o + i, none⟩) (World.block_lt_of_cell? w _ (hc i hi))]
  exact hc i hi

/-- what stands at the head of a round -/
structure RS (wa wr : World) (xs : List Int) (m l0 : Int) (k : Nat) : Prop where
  own : ∃ v, OQ wa wr wa.heap.size v xs m
  up : Up xs m
  above : ∀ x ∈ xs, l0 < x
  le : l0 ≤ m
  len : xs.length ≤ k
theorem RS.later {wa wr w' : World} {xs : List Int} {m l0 : Int} {k : Nat} (h : RS wa wr xs m l0 k) (hb : Below wr.heap.size wr w') : RS wa w' xs m l0 k := by
  obtain ⟨v, hv⟩ := h.own
  exact ⟨⟨v, hv.later hb⟩, h.up, h.above, h.le, h.len⟩
theorem RS.stands {wa wr : World} {xs : List Int} {m l0 : Int} {k : Nat} (h : RS wa wr xs m l0 k) : Stands wr (some ⟨wa.heap.size, 0, none⟩) xs := by
  obtain ⟨v, hv⟩ := h.own
  exact hv.stands
theorem RS.below {wa wr : World} {xs : List Int} {m l0 : Int} {k : Nat} (h : RS wa wr xs m l0 k) : Below wa.heap.size wa wr := by
  obtain ⟨v, hv⟩ := h.own
  exact hv.below
theorem RS.succ {wa wr : World} {xs : List Int} {m l0 : Int} {k : Nat} (h : RS wa wr xs m l0 k) : RS wa wr xs m l0 (k + 1) := ⟨h.own, h.up, h.above, h.le, Nat.le_succ_of_le h.len⟩
theorem rput_hi {wa wr : World} {xs : List Int} {m l0 : Int} {k : Nat} (h : RS wa wr xs m l0 k) (hk : k < 200) (t : Int) (ht : ¬ t ≤ m) : Calls Try.prog 7 #[qp wa.heap.size, .int .u64 t] wr fun e w' => e = .returned (.int .i64 0) ∧ RS wa w' (xs ++ [t]) t l0 (k + 1) := by
  obtain ⟨v, hv⟩ := h.own
  have hl := h.len
  have hm := h.le
  refine (oput_high hv t ht (by omega)).mono ?_
  rintro e w' ⟨rfl, v', h1⟩
  refine ⟨rfl, ⟨v', h1⟩, h.up.put (by omega), fun x hx => ?_, by omega, by simp; omega⟩
  simp at hx
  rcases hx with hx | rfl
  · exact h.above x hx
  · omega
theorem rput_lo {wa wr : World} {xs : List Int} {m l0 : Int} {k : Nat} (h : RS wa wr xs m l0 k) (t : Int) (ht : t ≤ m) : Calls Try.prog 7 #[qp wa.heap.size, .int .u64 t] wr fun e w' => e = .returned (.int .i64 110) ∧ RS wa w' xs m l0 (k + 1) := by
  obtain ⟨v, hv⟩ := h.own
  refine (oput_low hv t ht).mono ?_
  rintro e w' ⟨rfl, rfl⟩
  exact ⟨rfl, h.succ⟩
theorem rtake_no {wa wr : World} {ys : List Int} {m l0 : Int} {k : Nat} (h : RS wa wr ys m l0 k) (hys : ys = []) : Calls Try.prog 8 #[qp wa.heap.size] wr fun e w' => e = .returned (.tuple #[.int .u64 0, .bool false]) ∧ RS wa w' ys m l0 k := by
  subst hys
  obtain ⟨v, hv⟩ := h.own
  refine (take_none hv.at').mono ?_
  rintro e w' ⟨rfl, rfl⟩
  exact ⟨rfl, h⟩
theorem rtake_yes {wa wr : World} {x : Int} {ys xs : List Int} {m l0 : Int} {k : Nat} (h : RS wa wr ys m l0 k) (hys : ys = x :: xs) (hk : k ≤ 200) : Calls Try.prog 8 #[qp wa.heap.size] wr fun e w' => e = .returned (.tuple #[.int .u64 x, .bool true]) ∧ RS wa w' xs m x k := by
  subst hys
  obtain ⟨v, hv⟩ := h.own
  have hl := h.len
  refine (otake_some hv (by omega)).mono ?_
  rintro e w' ⟨rfl, v', h1, _⟩
  exact ⟨rfl, ⟨⟨v', h1⟩, h.up.tail, fun y hy => (List.pairwise_cons.1 h.up.rise).1 y hy, h.up.top x (by simp), by simp at hl; omega⟩⟩
theorem rlisted {wa wr : World} {xs : List Int} {m l0 : Int} {k : Nat} (h : RS wa wr xs m l0 k) (hk : k ≤ 200) : Calls Try.prog 9 #[qp wa.heap.size, .int .i64 (-1)] wr fun e' w' => ∃ q c, e' = .returned (.tuple #[.slice q xs.length c, .bool true]) ∧ UIn w' q xs.length xs ∧ RS wa w' xs m l0 k := by
  have hl := h.len
  refine (olisted _ (-1) xs wr h.stands (by omega)).mono ?_
  rintro e w' ⟨q, c, rfl, hI, _, hb⟩
  exact ⟨q, c, rfl, hI, h.later hb⟩
theorem rlen {wa wr : World} {xs : List Int} {m l0 : Int} {k : Nat} (h : RS wa wr xs m l0 k) : Calls Try.prog 10 #[qp wa.heap.size] wr fun e w' => e = .returned (.int .i64 xs.length) ∧ wr = w' := by
  obtain ⟨v, hv⟩ := h.own
  exact len_at hv.at'
theorem rplace {wa wr : World} {xs : List Int} {m l0 : Int} {k : Nat} (h : RS wa wr xs m l0 k) (hk : k ≤ 200) (j : Nat) (hj : j < xs.length) : Calls Try.prog 11 #[qp wa.heap.size, .int .u64 (xs.getD j 0)] wr fun e w' => e = .returned (.int .i64 j) ∧ Below wr.heap.size wr w' := by
  have hl := h.len
  have he : xs.getD j 0 = xs[j] := by simp [List.getD, List.getElem?_eq_getElem hj]
  have := place_any (some ⟨wa.heap.size, 0, none⟩) (xs.getD j 0) xs wr h.stands (by omega)
  rw [he, place_at h.up hj] at this
  rw [he]
  exact this

set_option maxHeartbeats 4000000 in
set_option maxRecDepth 100000 in
theorem ticketRises_any (p : Option Addr) (n c : Nat) (ps : List Int) (q : Option Addr) (nb cb : Nat) (f : Nat → Bool) (w : World) (hp : UIn w p n ps) (hq : TIn w q nb f) (hn : n ≤ 9223372036854775807) (hnb : nb ≤ 9223372036854775807) :
    Calls Try.prog 3 #[.slice p n c, .slice q nb cb] w fun e w' => e = .returned (.bool true) ∧ Below w.heap.size w w' := by
  have HP : Hid (UIn w p n ps) := hp
  have HQ : Hid (TIn w q nb f) := hq
  clear hp hq
  go_enter Try.func3, Try.ntmps3
  go_wp2_with fail
  refine (awake_any w).mono ?_
  rintro e wa ⟨rfl, ba⟩
  have BA : Hid (Below w.heap.size w wa) := ba
  obtain ⟨w1, hw1⟩ : ∃ x, x = wa.alloc (.cells #[.slice none 0 0, .int .u64 0] 28) := ⟨_, rfl⟩
  have S1 : Hid (RS wa w1 [] 0 0 0) := by rw [hw1]; exact ⟨⟨_, OQ.new wa⟩, Up.nil, by simp, by omega, by simp⟩
  have ew := hw1.symm
  clear hw1 ba
  go_wp2_with fail
  go_loopw [6, 7, 8, 9] (fun mo la nn i wr => ∃ (k : Nat) (m l0 : Int) (xs : List Int), k ≤ n ∧ k ≤ 200 ∧ mo = .int .u64 m ∧ la = .int .u64 l0 ∧ nn = .int .i64 xs.length ∧ i = .int .i64 k ∧ Hid (RS wa wr xs m l0 k)) (fun _ _ _ i _ => 200 - (intOf i).toNat)
  case atStart => exact ⟨0, 0, 0, [], Nat.zero_le _, Nat.zero_le _, rfl, rfl, rfl, rfl, S1⟩
  case round =>
    clear S1 ew
    obtain ⟨k, m, l0, xs, hkn, hk2, rfl, rfl, rfl, rfl, S2⟩ := hrel
    by_cases hk : k < n
    · by_cases hk3 : k < 200
      · have i1 : (k : Int) < (n : Int) := by omega
        have i2 : (k : Int) < 200 := by omega
        have BW : Hid (Below w.heap.size w wr) := below_then BA.out S2.out.below
        obtain ⟨b, o, rfl, hc⟩ := HP.out.cells (by omega)
        have cx : wr.cell? ⟨b, o + k, none⟩ = some (.int .u64 (ps.getD k 0)) := (BW.out.cell (p := ⟨b, o + k, none⟩) (World.block_lt_of_cell? w _ (hc k hk))).trans (hc k hk)
        have HCX : Hid (∀ w', Below wa.heap.size wa w' → w'.cell? ⟨b, o + k, none⟩ = some (.int .u64 (ps.getD k 0))) := fun w' hb => ((below_then BA.out hb).cell (p := ⟨b, o + k, none⟩) (World.block_lt_of_cell? w _ (hc k hk))).trans (hc k hk)
        generalize ps.getD k 0 = x at *
        clear hc
        by_cases hx : x ≤ m
        · have hgt : decide (m < x) = false := decide_eq_false (by omega)
          go_wp2_with fail
          refine (rput_lo S2.out x hx).mono ?_
          rintro e w2 ⟨rfl, s3⟩
          have S3 : Hid (RS wa w2 xs m l0 (k + 1)) := s3
          have cx2 := HCX.out w2 s3.below
          clear s3 cx
          by_cases hb1 : k < nb
          · have hb2 : (k : Int) < (nb : Int) := by omega
            obtain ⟨tb, to, rfl, hct⟩ := HQ.out.cells (by omega)
            have ct : w2.cell? ⟨tb, to + k, none⟩ = some (.bool (f k)) := ((below_then BA.out S3.out.below).cell (p := ⟨tb, to + k, none⟩) (World.block_lt_of_cell? w _ (hct k hb1))).trans (hct k hb1)
            clear hct
            cases hf : f k
            · rw [hf] at ct
              have S5 := S3
              clear S3
              go_wp2_with fail
              refine (rlisted S5.out (by omega)).mono ?_
              rintro e w6 ⟨ql, cl, rfl, hI, s6⟩
              have I6 : Hid (UIn w6 ql xs.length xs) := hI
              have S6 : Hid (RS wa w6 xs m l0 (k + 1)) := s6
              clear hI s6 S5
              clear hgt ct
              go_wp2_with fail
              refine (rlen S6.out).mono ?_
              rintro e w6' ⟨rfl, rfl⟩
              go_wp2_with fail
              go_loopw [15] (fun kk wx => ∃ j : Nat, 1 ≤ j ∧ j ≤ xs.length + 1 ∧ kk = .int .i64 j ∧ Hid (UIn wx ql xs.length xs) ∧ Hid (RS wa wx xs m l0 (k + 1))) (fun kk _ => xs.length + 1 - (intOf kk).toNat)
              case atStart => exact ⟨1, Nat.le_refl _, by omega, rfl, I6, S6⟩
              case round =>
                clear I6 S6
                obtain ⟨j, hj1, hj2, rfl, I7, S7⟩ := hrel
                have hzl : xs.length ≤ 200 := by have := S7.out.len; omega
                by_cases hj : j < xs.length
                · have j1 : (j : Int) < (xs.length : Int) := by omega
                  obtain ⟨lb, lo, rfl, hcl⟩ := I7.out.cells (by omega)
                  obtain ⟨jm, hjm⟩ : ∃ jm : Nat, jm = j - 1 := ⟨_, rfl⟩
                  have hjw : IntKind.i64.wrap ((j : Int) - 1) = (jm : Int) := by rw [IntKind.wrap_i64]; omega
                  have jm1 : jm < xs.length := by omega
                  have jm2 : (jm : Int) < (xs.length : Int) := by omega
                  have hcj := hcl j hj
                  have hcm := hcl jm jm1
                  have HL : Hid (∀ w', Below wr.heap.size wr w' → w'.cell? ⟨lb, lo + j, none⟩ = some (.int .u64 (xs.getD j 0)) ∧ w'.cell? ⟨lb, lo + jm, none⟩ = some (.int .u64 (xs.getD jm 0))) := fun w' hb => ⟨(hb.cell (p := ⟨lb, lo + j, none⟩) (World.block_lt_of_cell? wr _ hcj)).trans hcj, (hb.cell (p := ⟨lb, lo + jm, none⟩) (World.block_lt_of_cell? wr _ hcm)).trans hcm⟩
                  have hlt : xs.getD jm 0 < xs.getD j 0 := by rw [hjm]; exact rise_get S7.out.up hj1 hj
                  have HPL : Hid (∀ w', Below wr.heap.size wr w' → Calls Try.prog 11 #[qp wa.heap.size, .int .u64 (xs.getD j 0)] w' fun e w'' => e = .returned (.int .i64 j) ∧ Below w'.heap.size w' w'') := fun w' hb => rplace (S7.out.later hb) (by omega) j hj
                  have hdl : decide (xs.getD j 0 ≤ xs.getD jm 0) = false := decide_eq_false (by omega)
                  generalize xs.getD j 0 = yj at *
                  generalize xs.getD jm 0 = ym at *
                  have hjn : ((j : Int) != (j : Int)) = false := by simp
                  clear hcl hcj hcm hlt hjm
                  go_wp2_with fail
                  refine wp_region_noPanic ?_
                  refine wp_region_held_drew (S := fun w' => Below wr.heap.size wr w') (by kernel_rfl) (below_drawn 1) (fun hHeld => ?_)
                  have D : Hid (Below wr.heap.size wr wr.drew) := hHeld
                  generalize wr.drew = wd at *
                  refine wpAnyH_take (i := 0) (v := ?va1) (by simp; rfl) (by kernel_rfl) (by kernel_rfl) (by kernel_rfl) (fun _ _ _ h => h) (Or.inl ⟨by rfl, ?ya1⟩) hHeld ?ra1
                  case ya1 => intro w hSw; clear hSw; go_simp; with_reducible rfl
                  simp only [Act.put, List.setIfInBounds_toArray, List.set_cons_zero, List.set_cons_succ]
                  refine wpAnyH_take (i := 1) (v := ?va2) (by simp; rfl) (by kernel_rfl) (by kernel_rfl) (by kernel_rfl) (fun _ _ _ h => h) (Or.inl ⟨by rfl, ?ya2⟩) hHeld ?ra2
                  case ya2 => intro w hSw; clear hSw; go_simp; with_reducible rfl
                  simp only [Act.put, List.setIfInBounds_toArray, List.set_cons_zero, List.set_cons_succ]
                  refine wpAnyH_take (i := 2) (v := ?va3) (by simp; rfl) (by kernel_rfl) (by kernel_rfl) (by kernel_rfl) (fun _ _ _ h => h) (Or.inl ⟨by rfl, ?ya3⟩) hHeld ?ra3
                  case ya3 => intro w hSw; clear hSw; go_simp; with_reducible rfl
                  simp only [Act.put, List.setIfInBounds_toArray, List.set_cons_zero, List.set_cons_succ]
                  refine wpAnyH_take (i := 3) (v := ?va4) (by simp; rfl) (by kernel_rfl) (by kernel_rfl) (by kernel_rfl) (fun _ _ _ h => h) (Or.inl ⟨by rfl, ?ya4⟩) hHeld ?ra4
                  case ya4 => intro w hSw; have z := (HL.out w hSw).1; clear hSw; go_simp; with_reducible rfl
                  simp only [Act.put, List.setIfInBounds_toArray, List.set_cons_zero, List.set_cons_succ]
                  refine wpAnyH_take (i := 4) (v := ?va5) (by simp; rfl) (by kernel_rfl) (by kernel_rfl) (by kernel_rfl) (fun _ _ _ h => h) (Or.inl ⟨by rfl, ?ya5⟩) hHeld ?ra5
                  case ya5 => intro w hSw; clear hSw; go_simp; with_reducible rfl
                  simp only [Act.put, List.setIfInBounds_toArray, List.set_cons_zero, List.set_cons_succ]
                  refine wpAnyH_take (i := 5) (v := ?va6) (by simp; rfl) (by kernel_rfl) (by kernel_rfl) (by kernel_rfl) (fun _ _ _ h => h) (Or.inl ⟨by rfl, ?ya6⟩) hHeld ?ra6
                  case ya6 => intro w hSw; clear hSw; go_simp; with_reducible rfl
                  simp only [Act.put, List.setIfInBounds_toArray, List.set_cons_zero, List.set_cons_succ]
                  refine wpAnyH_take (i := 6) (v := ?va7) (by simp; rfl) (by kernel_rfl) (by kernel_rfl) (by kernel_rfl) (fun _ _ _ h => h) (Or.inl ⟨by rfl, ?ya7⟩) hHeld ?ra7
                  case ya7 => intro w hSw; clear hSw; go_simp; with_reducible rfl
                  simp only [Act.put, List.setIfInBounds_toArray, List.set_cons_zero, List.set_cons_succ]
                  refine wpAnyH_take (i := 7) (v := ?va8) (by simp; rfl) (by kernel_rfl) (by kernel_rfl) (by kernel_rfl) (fun _ _ _ h => h) (Or.inl ⟨by rfl, ?ya8⟩) hHeld ?ra8
                  case ya8 => intro w hSw; clear hSw; go_simp; with_reducible rfl
                  simp only [Act.put, List.setIfInBounds_toArray, List.set_cons_zero, List.set_cons_succ]
                  refine wpAnyH_take (i := 8) (v := ?va9) (by simp; rfl) (by kernel_rfl) (by kernel_rfl) (by kernel_rfl) (fun _ _ _ h => h) (Or.inl ⟨by rfl, ?ya9⟩) hHeld ?ra9
                  case ya9 => intro w hSw; have z := (HL.out w hSw).2; clear hSw; go_simp; with_reducible rfl
                  simp only [Act.put, List.setIfInBounds_toArray, List.set_cons_zero, List.set_cons_succ]
                  refine wpAnyH_take (i := 9) (v := ?va10) (by simp; rfl) (by kernel_rfl) (by kernel_rfl) (by kernel_rfl) (fun _ _ _ h => h) (Or.inl ⟨by rfl, ?ya10⟩) hHeld ?ra10
                  case ya10 => intro w hSw; clear hSw; go_simp; with_reducible rfl
                  simp only [Act.put, List.setIfInBounds_toArray, List.set_cons_zero, List.set_cons_succ]
                  refine wpAnyH_take (i := 10) (v := ?va11) (by simp; rfl) (by kernel_rfl) (by kernel_rfl) (by kernel_rfl) (fun _ _ _ h => h) (Or.inl ⟨by rfl, ?ya11⟩) hHeld ?ra11
                  case ya11 => intro w hSw; clear hSw; go_simp; with_reducible rfl
                  simp only [Act.put, List.setIfInBounds_toArray, List.set_cons_zero, List.set_cons_succ]
                  refine wpAnyH_take (i := 11) (v := ?va12) (by simp; rfl) (by kernel_rfl) (by kernel_rfl) (by kernel_rfl) (fun _ _ _ h => h) (Or.inl ⟨by rfl, ?ya12⟩) hHeld ?ra12
                  case ya12 => intro w hSw; clear hSw; go_simp; with_reducible rfl
                  simp only [Act.put, List.setIfInBounds_toArray, List.set_cons_zero, List.set_cons_succ]
                  refine wpAnyH_take (i := 12) (v := ?va13) (by simp; rfl) (by kernel_rfl) (by kernel_rfl) (by kernel_rfl) (fun _ _ _ h => h) (Or.inl ⟨by rfl, ?ya13⟩) hHeld ?ra13
                  case ya13 => intro w hSw; clear hSw; go_simp; with_reducible rfl
                  simp only [Act.put, List.setIfInBounds_toArray, List.set_cons_zero, List.set_cons_succ]
                  refine wpAnyH_take (i := 13) (v := ?va14) (by simp; rfl) (by kernel_rfl) (by kernel_rfl) (by kernel_rfl) (fun _ _ _ h => h) (Or.inl ⟨by rfl, ?ya14⟩) hHeld ?ra14
                  case ya14 => intro w hSw; clear hSw; go_simp; with_reducible rfl
                  simp only [Act.put, List.setIfInBounds_toArray, List.set_cons_zero, List.set_cons_succ]
                  refine wpAnyH_take (i := 14) (v := ?va15) (by simp; rfl) (by kernel_rfl) (by kernel_rfl) (by kernel_rfl) (fun _ _ _ h => h) (Or.inl ⟨by rfl, ?ya15⟩) hHeld ?ra15
                  case ya15 => intro w hSw; clear hSw; go_simp; with_reducible rfl
                  simp only [Act.put, List.setIfInBounds_toArray, List.set_cons_zero, List.set_cons_succ]
                  refine wpAnyH_take (i := 15) (v := ?va16) (by simp; rfl) (by kernel_rfl) (by kernel_rfl) (by kernel_rfl) (fun _ _ _ h => h) (Or.inl ⟨by rfl, ?ya16⟩) hHeld ?ra16
                  case ya16 => intro w hSw; have z := (HL.out w hSw).1; clear hSw; go_simp; with_reducible rfl
                  simp only [Act.put, List.setIfInBounds_toArray, List.set_cons_zero, List.set_cons_succ]
                  refine wpAnyH_take (i := 17) (v := ?va17) (by simp; rfl) (by kernel_rfl) (by kernel_rfl) (by kernel_rfl) (fun _ _ _ h => h) (Or.inl ⟨by rfl, ?ya17⟩) hHeld ?ra17
                  case ya17 => intro w hSw; clear hSw; go_simp; with_reducible rfl
                  simp only [Act.put, List.setIfInBounds_toArray, List.set_cons_zero, List.set_cons_succ]
                  refine wpAnyH_ready (rs := [16]) (by kernel_rfl) (by simp) ?_
                  refine AllReadyH.cons (by simp; rfl) (fun Kc hKc => ?_) AllReadyH.nil
                  go_simp
                  refine (HPL.out wd D.out).mono ?_
                  rintro e w8 ⟨rfl, b8⟩
                  have D8 : Hid (Below wr.heap.size wr w8) := below_then D.out b8
                  clear b8
                  refine hKc.out _ _ D8.out (fun hHeld => ?_)
                  clear hKc Kc
                  refine wpAnyH_take (i := 18) (v := ?va18) (by simp; rfl) (by kernel_rfl) (by kernel_rfl) (by kernel_rfl) (fun _ _ _ h => h) (Or.inl ⟨by rfl, ?ya18⟩) hHeld ?ra18
                  case ya18 => intro w hSw; clear hSw; go_simp; with_reducible rfl
                  simp only [Act.put, List.setIfInBounds_toArray, List.set_cons_zero, List.set_cons_succ]
                  refine wpAnyH_take (i := 19) (v := ?va19) (by simp; rfl) (by kernel_rfl) (by kernel_rfl) (by kernel_rfl) (fun _ _ _ h => h) (Or.inl ⟨by rfl, ?ya19⟩) hHeld ?ra19
                  case ya19 => intro w hSw; clear hSw; go_simp; with_reducible rfl
                  simp only [Act.put, List.setIfInBounds_toArray, List.set_cons_zero, List.set_cons_succ]
                  clear hHeld
                  refine wpAnyH_done (by kernel_rfl) (NoPanic.normal ?_) _
                  have hjs : IntKind.i64.wrap ((j : Int) + 1) = (j : Int) + 1 := by rw [IntKind.wrap_i64]; omega
                  go_wp2_with fail
                  go_roundw
                  case rel => exact ⟨j + 1, by omega, by omega, by go_num, I7.out.later D8.out, S7.out.later D8.out⟩
                  case measure => simp [intOf]; omega
                · have hks : IntKind.i64.wrap ((k : Int) + 1) = (k : Int) + 1 := by rw [IntKind.wrap_i64]; omega
                  go_wp2_with fail
                  go_roundw
                  case rel => exact ⟨k + 1, m, l0, xs, by omega, by omega, rfl, rfl, rfl, by go_num, S7⟩
                  case measure => simp [intOf]; omega
            · rw [hf] at ct
              rcases list_parts xs with hys | ⟨y, zs, hys⟩
              · skip
                subst hys
                go_wp2_with fail
                refine (rtake_no S3.out rfl).mono ?_
                rintro e w5 ⟨rfl, s5⟩
                have S5 : Hid (RS wa w5 [] m l0 (k + 1)) := s5
                clear s5 S3
                go_wp2_with fail
                refine (rlisted S5.out (by omega)).mono ?_
                rintro e w6 ⟨ql, cl, rfl, _, s6⟩
                have S6 : Hid (RS wa w6 [] m l0 (k + 1)) := s6
                clear s6 S5
                go_wp2_with fail
                refine (rlen S6.out).mono ?_
                rintro e w6' ⟨rfl, rfl⟩
                go_wp2_with fail
                go_loopw [15] (fun kk wx => kk = .int .i64 1 ∧ Hid (RS wa wx [] m l0 (k + 1))) (fun _ _ => 0)
                case atStart => exact ⟨rfl, S6⟩
                case round =>
                  clear S6
                  obtain ⟨rfl, S7⟩ := hrel
                  have hks : IntKind.i64.wrap ((k : Int) + 1) = (k : Int) + 1 := by rw [IntKind.wrap_i64]; omega
                  go_wp2_with fail
                  go_roundw
                  case rel => exact ⟨k + 1, m, l0, [], by omega, by omega, rfl, rfl, rfl, by go_num, S7⟩
                  case measure => simp [intOf]; omega
              · skip
                have HYS : Hid (xs = y :: zs) := hys
                have hlz : xs.length = zs.length + 1 := by rw [hys]; rfl
                have hpos : decide ((0 : Int) < (xs.length : Int)) = true := decide_eq_true (by omega)
                have hyl : decide (y ≤ l0) = false := decide_eq_false (by have := S3.out.above y (by rw [hys]; simp); omega)
                have hws : IntKind.i64.wrap ((xs.length : Int) - 1) = (zs.length : Int) := by have := S3.out.len; rw [IntKind.wrap_i64]; omega
                have hwz : 0 < xs.length := by omega
                clear hys hlz
                go_wp2_with fail
                refine (rtake_yes S3.out HYS.out (by omega)).mono ?_
                rintro e w5 ⟨rfl, s5⟩
                have S5 : Hid (RS wa w5 zs m y (k + 1)) := s5
                clear s5 S3
                go_wp2_with fail
                refine (rlisted S5.out (by omega)).mono ?_
                rintro e w6 ⟨ql, cl, rfl, hI, s6⟩
                have I6 : Hid (UIn w6 ql zs.length zs) := hI
                have S6 : Hid (RS wa w6 zs m y (k + 1)) := s6
                clear hI s6 S5
                clear hgt ct hws hpos hyl hwz
                go_wp2_with fail
                refine (rlen S6.out).mono ?_
                rintro e w6' ⟨rfl, rfl⟩
                go_wp2_with fail
                go_loopw [15] (fun kk wx => ∃ j : Nat, 1 ≤ j ∧ j ≤ zs.length + 1 ∧ kk = .int .i64 j ∧ Hid (UIn wx ql zs.length zs) ∧ Hid (RS wa wx zs m y (k + 1))) (fun kk _ => zs.length + 1 - (intOf kk).toNat)
                case atStart => exact ⟨1, Nat.le_refl _, by omega, rfl, I6, S6⟩
                case round =>
                  clear I6 S6
                  obtain ⟨j, hj1, hj2, rfl, I7, S7⟩ := hrel
                  have hzl : zs.length ≤ 200 := by have := S7.out.len; omega
                  by_cases hj : j < zs.length
                  · have j1 : (j : Int) < (zs.length : Int) := by omega
                    obtain ⟨lb, lo, rfl, hcl⟩ := I7.out.cells (by omega)
                    obtain ⟨jm, hjm⟩ : ∃ jm : Nat, jm = j - 1 := ⟨_, rfl⟩
                    have hjw : IntKind.i64.wrap ((j : Int) - 1) = (jm : Int) := by rw [IntKind.wrap_i64]; omega
                    have jm1 : jm < zs.length := by omega
                    have jm2 : (jm : Int) < (zs.length : Int) := by omega
                    have hcj := hcl j hj
                    have hcm := hcl jm jm1
                    have HL : Hid (∀ w', Below wr.heap.size wr w' → w'.cell? ⟨lb, lo + j, none⟩ = some (.int .u64 (zs.getD j 0)) ∧ w'.cell? ⟨lb, lo + jm, none⟩ = some (.int .u64 (zs.getD jm 0))) := fun w' hb => ⟨(hb.cell (p := ⟨lb, lo + j, none⟩) (World.block_lt_of_cell? wr _ hcj)).trans hcj, (hb.cell (p := ⟨lb, lo + jm, none⟩) (World.block_lt_of_cell? wr _ hcm)).trans hcm⟩
                    have hlt : zs.getD jm 0 < zs.getD j 0 := by rw [hjm]; exact rise_get S7.out.up hj1 hj
                    have HPL : Hid (∀ w', Below wr.heap.size wr w' → Calls Try.prog 11 #[qp wa.heap.size, .int .u64 (zs.getD j 0)] w' fun e w'' => e = .returned (.int .i64 j) ∧ Below w'.heap.size w' w'') := fun w' hb => rplace (S7.out.later hb) (by omega) j hj
                    have hdl : decide (zs.getD j 0 ≤ zs.getD jm 0) = false := decide_eq_false (by omega)
                    generalize zs.getD j 0 = yj at *
                    generalize zs.getD jm 0 = ym at *
                    have hjn : ((j : Int) != (j : Int)) = false := by simp
                    clear hcl hcj hcm hlt hjm
                    go_wp2_with fail
                    refine wp_region_noPanic ?_
                    refine wp_region_held_drew (S := fun w' => Below wr.heap.size wr w') (by kernel_rfl) (below_drawn 1) (fun hHeld => ?_)
                    have D : Hid (Below wr.heap.size wr wr.drew) := hHeld
                    generalize wr.drew = wd at *
                    refine wpAnyH_take (i := 0) (v := ?va20) (by simp; rfl) (by kernel_rfl) (by kernel_rfl) (by kernel_rfl) (fun _ _ _ h => h) (Or.inl ⟨by rfl, ?ya20⟩) hHeld ?ra20
                    case ya20 => intro w hSw; clear hSw; go_simp; with_reducible rfl
                    simp only [Act.put, List.setIfInBounds_toArray, List.set_cons_zero, List.set_cons_succ]
                    refine wpAnyH_take (i := 1) (v := ?va21) (by simp; rfl) (by kernel_rfl) (by kernel_rfl) (by kernel_rfl) (fun _ _ _ h => h) (Or.inl ⟨by rfl, ?ya21⟩) hHeld ?ra21
                    case ya21 => intro w hSw; clear hSw; go_simp; with_reducible rfl
                    simp only [Act.put, List.setIfInBounds_toArray, List.set_cons_zero, List.set_cons_succ]
                    refine wpAnyH_take (i := 2) (v := ?va22) (by simp; rfl) (by kernel_rfl) (by kernel_rfl) (by kernel_rfl) (fun _ _ _ h => h) (Or.inl ⟨by rfl, ?ya22⟩) hHeld ?ra22
                    case ya22 => intro w hSw; clear hSw; go_simp; with_reducible rfl
                    simp only [Act.put, List.setIfInBounds_toArray, List.set_cons_zero, List.set_cons_succ]
                    refine wpAnyH_take (i := 3) (v := ?va23) (by simp; rfl) (by kernel_rfl) (by kernel_rfl) (by kernel_rfl) (fun _ _ _ h => h) (Or.inl ⟨by rfl, ?ya23⟩) hHeld ?ra23
                    case ya23 => intro w hSw; have z := (HL.out w hSw).1; clear hSw; go_simp; with_reducible rfl
                    simp only [Act.put, List.setIfInBounds_toArray, List.set_cons_zero, List.set_cons_succ]
                    refine wpAnyH_take (i := 4) (v := ?va24) (by simp; rfl) (by kernel_rfl) (by kernel_rfl) (by kernel_rfl) (fun _ _ _ h => h) (Or.inl ⟨by rfl, ?ya24⟩) hHeld ?ra24
                    case ya24 => intro w hSw; clear hSw; go_simp; with_reducible rfl
                    simp only [Act.put, List.setIfInBounds_toArray, List.set_cons_zero, List.set_cons_succ]
                    refine wpAnyH_take (i := 5) (v := ?va25) (by simp; rfl) (by kernel_rfl) (by kernel_rfl) (by kernel_rfl) (fun _ _ _ h => h) (Or.inl ⟨by rfl, ?ya25⟩) hHeld ?ra25
                    case ya25 => intro w hSw; clear hSw; go_simp; with_reducible rfl
                    simp only [Act.put, List.setIfInBounds_toArray, List.set_cons_zero, List.set_cons_succ]
                    refine wpAnyH_take (i := 6) (v := ?va26) (by simp; rfl) (by kernel_rfl) (by kernel_rfl) (by kernel_rfl) (fun _ _ _ h => h) (Or.inl ⟨by rfl, ?ya26⟩) hHeld ?ra26
                    case ya26 => intro w hSw; clear hSw; go_simp; with_reducible rfl
                    simp only [Act.put, List.setIfInBounds_toArray, List.set_cons_zero, List.set_cons_succ]
                    refine wpAnyH_take (i := 7) (v := ?va27) (by simp; rfl) (by kernel_rfl) (by kernel_rfl) (by kernel_rfl) (fun _ _ _ h => h) (Or.inl ⟨by rfl, ?ya27⟩) hHeld ?ra27
                    case ya27 => intro w hSw; clear hSw; go_simp; with_reducible rfl
                    simp only [Act.put, List.setIfInBounds_toArray, List.set_cons_zero, List.set_cons_succ]
                    refine wpAnyH_take (i := 8) (v := ?va28) (by simp; rfl) (by kernel_rfl) (by kernel_rfl) (by kernel_rfl) (fun _ _ _ h => h) (Or.inl ⟨by rfl, ?ya28⟩) hHeld ?ra28
                    case ya28 => intro w hSw; have z := (HL.out w hSw).2; clear hSw; go_simp; with_reducible rfl
                    simp only [Act.put, List.setIfInBounds_toArray, List.set_cons_zero, List.set_cons_succ]
                    refine wpAnyH_take (i := 9) (v := ?va29) (by simp; rfl) (by kernel_rfl) (by kernel_rfl) (by kernel_rfl) (fun _ _ _ h => h) (Or.inl ⟨by rfl, ?ya29⟩) hHeld ?ra29
                    case ya29 => intro w hSw; clear hSw; go_simp; with_reducible rfl
                    simp only [Act.put, List.setIfInBounds_toArray, List.set_cons_zero, List.set_cons_succ]
                    refine wpAnyH_take (i := 10) (v := ?va30) (by simp; rfl) (by kernel_rfl) (by kernel_rfl) (by kernel_rfl) (fun _ _ _ h => h) (Or.inl ⟨by rfl, ?ya30⟩) hHeld ?ra30
                    case ya30 => intro w hSw; clear hSw; go_simp; with_reducible rfl
                    simp only [Act.put, List.setIfInBounds_toArray, List.set_cons_zero, List.set_cons_succ]
                    refine wpAnyH_take (i := 11) (v := ?va31) (by simp; rfl) (by kernel_rfl) (by kernel_rfl) (by kernel_rfl) (fun _ _ _ h => h) (Or.inl ⟨by rfl, ?ya31⟩) hHeld ?ra31
                    case ya31 => intro w hSw; clear hSw; go_simp; with_reducible rfl
                    simp only [Act.put, List.setIfInBounds_toArray, List.set_cons_zero, List.set_cons_succ]
                    refine wpAnyH_take (i := 12) (v := ?va32) (by simp; rfl) (by kernel_rfl) (by kernel_rfl) (by kernel_rfl) (fun _ _ _ h => h) (Or.inl ⟨by rfl, ?ya32⟩) hHeld ?ra32
                    case ya32 => intro w hSw; clear hSw; go_simp; with_reducible rfl
                    simp only [Act.put, List.setIfInBounds_toArray, List.set_cons_zero, List.set_cons_succ]
                    refine wpAnyH_take (i := 13) (v := ?va33) (by simp; rfl) (by kernel_rfl) (by kernel_rfl) (by kernel_rfl) (fun _ _ _ h => h) (Or.inl ⟨by rfl, ?ya33⟩) hHeld ?ra33
                    case ya33 => intro w hSw; clear hSw; go_simp; with_reducible rfl
                    simp only [Act.put, List.setIfInBounds_toArray, List.set_cons_zero, List.set_cons_succ]
                    refine wpAnyH_take (i := 14) (v := ?va34) (by simp; rfl) (by kernel_rfl) (by kernel_rfl) (by kernel_rfl) (fun _ _ _ h => h) (Or.inl ⟨by rfl, ?ya34⟩) hHeld ?ra34
                    case ya34 => intro w hSw; clear hSw; go_simp; with_reducible rfl
                    simp only [Act.put, List.setIfInBounds_toArray, List.set_cons_zero, List.set_cons_succ]
                    refine wpAnyH_take (i := 15) (v := ?va35) (by simp; rfl) (by kernel_rfl) (by kernel_rfl) (by kernel_rfl) (fun _ _ _ h => h) (Or.inl ⟨by rfl, ?ya35⟩) hHeld ?ra35
                    case ya35 => intro w hSw; have z := (HL.out w hSw).1; clear hSw; go_simp; with_reducible rfl
                    simp only [Act.put, List.setIfInBounds_toArray, List.set_cons_zero, List.set_cons_succ]
                    refine wpAnyH_take (i := 17) (v := ?va36) (by simp; rfl) (by kernel_rfl) (by kernel_rfl) (by kernel_rfl) (fun _ _ _ h => h) (Or.inl ⟨by rfl, ?ya36⟩) hHeld ?ra36
                    case ya36 => intro w hSw; clear hSw; go_simp; with_reducible rfl
                    simp only [Act.put, List.setIfInBounds_toArray, List.set_cons_zero, List.set_cons_succ]
                    refine wpAnyH_ready (rs := [16]) (by kernel_rfl) (by simp) ?_
                    refine AllReadyH.cons (by simp; rfl) (fun Kc hKc => ?_) AllReadyH.nil
                    go_simp
                    refine (HPL.out wd D.out).mono ?_
                    rintro e w8 ⟨rfl, b8⟩
                    have D8 : Hid (Below wr.heap.size wr w8) := below_then D.out b8
                    clear b8
                    refine hKc.out _ _ D8.out (fun hHeld => ?_)
                    clear hKc Kc
                    refine wpAnyH_take (i := 18) (v := ?va37) (by simp; rfl) (by kernel_rfl) (by kernel_rfl) (by kernel_rfl) (fun _ _ _ h => h) (Or.inl ⟨by rfl, ?ya37⟩) hHeld ?ra37
                    case ya37 => intro w hSw; clear hSw; go_simp; with_reducible rfl
                    simp only [Act.put, List.setIfInBounds_toArray, List.set_cons_zero, List.set_cons_succ]
                    refine wpAnyH_take (i := 19) (v := ?va38) (by simp; rfl) (by kernel_rfl) (by kernel_rfl) (by kernel_rfl) (fun _ _ _ h => h) (Or.inl ⟨by rfl, ?ya38⟩) hHeld ?ra38
                    case ya38 => intro w hSw; clear hSw; go_simp; with_reducible rfl
                    simp only [Act.put, List.setIfInBounds_toArray, List.set_cons_zero, List.set_cons_succ]
                    clear hHeld
                    refine wpAnyH_done (by kernel_rfl) (NoPanic.normal ?_) _
                    have hjs : IntKind.i64.wrap ((j : Int) + 1) = (j : Int) + 1 := by rw [IntKind.wrap_i64]; omega
                    go_wp2_with fail
                    go_roundw
                    case rel => exact ⟨j + 1, by omega, by omega, by go_num, I7.out.later D8.out, S7.out.later D8.out⟩
                    case measure => simp [intOf]; omega
                  · have hks : IntKind.i64.wrap ((k : Int) + 1) = (k : Int) + 1 := by rw [IntKind.wrap_i64]; omega
                    go_wp2_with fail
                    go_roundw
                    case rel => exact ⟨k + 1, m, y, zs, by omega, by omega, rfl, rfl, rfl, by go_num, S7⟩
                    case measure => simp [intOf]; omega
          · have hb2 : ¬ (k : Int) < (nb : Int) := by omega
            have S5 := S3
            clear S3
            go_wp2_with fail
            refine (rlisted S5.out (by omega)).mono ?_
            rintro e w6 ⟨ql, cl, rfl, hI, s6⟩
            have I6 : Hid (UIn w6 ql xs.length xs) := hI
            have S6 : Hid (RS wa w6 xs m l0 (k + 1)) := s6
            clear hI s6 S5
            clear hgt hb2
            go_wp2_with fail
            refine (rlen S6.out).mono ?_
            rintro e w6' ⟨rfl, rfl⟩
            go_wp2_with fail
            go_loopw [15] (fun kk wx => ∃ j : Nat, 1 ≤ j ∧ j ≤ xs.length + 1 ∧ kk = .int .i64 j ∧ Hid (UIn wx ql xs.length xs) ∧ Hid (RS wa wx xs m l0 (k + 1))) (fun kk _ => xs.length + 1 - (intOf kk).toNat)
            case atStart => exact ⟨1, Nat.le_refl _, by omega, rfl, I6, S6⟩
            case round =>
              clear I6 S6
              obtain ⟨j, hj1, hj2, rfl, I7, S7⟩ := hrel
              have hzl : xs.length ≤ 200 := by have := S7.out.len; omega
              by_cases hj : j < xs.length
              · have j1 : (j : Int) < (xs.length : Int) := by omega
                obtain ⟨lb, lo, rfl, hcl⟩ := I7.out.cells (by omega)
                obtain ⟨jm, hjm⟩ : ∃ jm : Nat, jm = j - 1 := ⟨_, rfl⟩
                have hjw : IntKind.i64.wrap ((j : Int) - 1) = (jm : Int) := by rw [IntKind.wrap_i64]; omega
                have jm1 : jm < xs.length := by omega
                have jm2 : (jm : Int) < (xs.length : Int) := by omega
                have hcj := hcl j hj
                have hcm := hcl jm jm1
                have HL : Hid (∀ w', Below wr.heap.size wr w' → w'.cell? ⟨lb, lo + j, none⟩ = some (.int .u64 (xs.getD j 0)) ∧ w'.cell? ⟨lb, lo + jm, none⟩ = some (.int .u64 (xs.getD jm 0))) := fun w' hb => ⟨(hb.cell (p := ⟨lb, lo + j, none⟩) (World.block_lt_of_cell? wr _ hcj)).trans hcj, (hb.cell (p := ⟨lb, lo + jm, none⟩) (World.block_lt_of_cell? wr _ hcm)).trans hcm⟩
                have hlt : xs.getD jm 0 < xs.getD j 0 := by rw [hjm]; exact rise_get S7.out.up hj1 hj
                have HPL : Hid (∀ w', Below wr.heap.size wr w' → Calls Try.prog 11 #[qp wa.heap.size, .int .u64 (xs.getD j 0)] w' fun e w'' => e = .returned (.int .i64 j) ∧ Below w'.heap.size w' w'') := fun w' hb => rplace (S7.out.later hb) (by omega) j hj
                have hdl : decide (xs.getD j 0 ≤ xs.getD jm 0) = false := decide_eq_false (by omega)
                generalize xs.getD j 0 = yj at *
                generalize xs.getD jm 0 = ym at *
                have hjn : ((j : Int) != (j : Int)) = false := by simp
                clear hcl hcj hcm hlt hjm
                go_wp2_with fail
                refine wp_region_noPanic ?_
                refine wp_region_held_drew (S := fun w' => Below wr.heap.size wr w') (by kernel_rfl) (below_drawn 1) (fun hHeld => ?_)
                have D : Hid (Below wr.heap.size wr wr.drew) := hHeld
                generalize wr.drew = wd at *
                refine wpAnyH_take (i := 0) (v := ?va39) (by simp; rfl) (by kernel_rfl) (by kernel_rfl) (by kernel_rfl) (fun _ _ _ h => h) (Or.inl ⟨by rfl, ?ya39⟩) hHeld ?ra39
                case ya39 => intro w hSw; clear hSw; go_simp; with_reducible rfl
                simp only [Act.put, List.setIfInBounds_toArray, List.set_cons_zero, List.set_cons_succ]
                refine wpAnyH_take (i := 1) (v := ?va40) (by simp; rfl) (by kernel_rfl) (by kernel_rfl) (by kernel_rfl) (fun _ _ _ h => h) (Or.inl ⟨by rfl, ?ya40⟩) hHeld ?ra40
                case ya40 => intro w hSw; clear hSw; go_simp; with_reducible rfl
                simp only [Act.put, List.setIfInBounds_toArray, List.set_cons_zero, List.set_cons_succ]
                refine wpAnyH_take (i := 2) (v := ?va41) (by simp; rfl) (by kernel_rfl) (by kernel_rfl) (by kernel_rfl) (fun _ _ _ h => h) (Or.inl ⟨by rfl, ?ya41⟩) hHeld ?ra41
                case ya41 => intro w hSw; clear hSw; go_simp; with_reducible rfl
                simp only [Act.put, List.setIfInBounds_toArray, List.set_cons_zero, List.set_cons_succ]
                refine wpAnyH_take (i := 3) (v := ?va42) (by simp; rfl) (by kernel_rfl) (by kernel_rfl) (by kernel_rfl) (fun _ _ _ h => h) (Or.inl ⟨by rfl, ?ya42⟩) hHeld ?ra42
                case ya42 => intro w hSw; have z := (HL.out w hSw).1; clear hSw; go_simp; with_reducible rfl
                simp only [Act.put, List.setIfInBounds_toArray, List.set_cons_zero, List.set_cons_succ]
                refine wpAnyH_take (i := 4) (v := ?va43) (by simp; rfl) (by kernel_rfl) (by kernel_rfl) (by kernel_rfl) (fun _ _ _ h => h) (Or.inl ⟨by rfl, ?ya43⟩) hHeld ?ra43
                case ya43 => intro w hSw; clear hSw; go_simp; with_reducible rfl
                simp only [Act.put, List.setIfInBounds_toArray, List.set_cons_zero, List.set_cons_succ]
                refine wpAnyH_take (i := 5) (v := ?va44) (by simp; rfl) (by kernel_rfl) (by kernel_rfl) (by kernel_rfl) (fun _ _ _ h => h) (Or.inl ⟨by rfl, ?ya44⟩) hHeld ?ra44
                case ya44 => intro w hSw; clear hSw; go_simp; with_reducible rfl
                simp only [Act.put, List.setIfInBounds_toArray, List.set_cons_zero, List.set_cons_succ]
                refine wpAnyH_take (i := 6) (v := ?va45) (by simp; rfl) (by kernel_rfl) (by kernel_rfl) (by kernel_rfl) (fun _ _ _ h => h) (Or.inl ⟨by rfl, ?ya45⟩) hHeld ?ra45
                case ya45 => intro w hSw; clear hSw; go_simp; with_reducible rfl
                simp only [Act.put, List.setIfInBounds_toArray, List.set_cons_zero, List.set_cons_succ]
                refine wpAnyH_take (i := 7) (v := ?va46) (by simp; rfl) (by kernel_rfl) (by kernel_rfl) (by kernel_rfl) (fun _ _ _ h => h) (Or.inl ⟨by rfl, ?ya46⟩) hHeld ?ra46
                case ya46 => intro w hSw; clear hSw; go_simp; with_reducible rfl
                simp only [Act.put, List.setIfInBounds_toArray, List.set_cons_zero, List.set_cons_succ]
                refine wpAnyH_take (i := 8) (v := ?va47) (by simp; rfl) (by kernel_rfl) (by kernel_rfl) (by kernel_rfl) (fun _ _ _ h => h) (Or.inl ⟨by rfl, ?ya47⟩) hHeld ?ra47
                case ya47 => intro w hSw; have z := (HL.out w hSw).2; clear hSw; go_simp; with_reducible rfl
                simp only [Act.put, List.setIfInBounds_toArray, List.set_cons_zero, List.set_cons_succ]
                refine wpAnyH_take (i := 9) (v := ?va48) (by simp; rfl) (by kernel_rfl) (by kernel_rfl) (by kernel_rfl) (fun _ _ _ h => h) (Or.inl ⟨by rfl, ?ya48⟩) hHeld ?ra48
                case ya48 => intro w hSw; clear hSw; go_simp; with_reducible rfl
                simp only [Act.put, List.setIfInBounds_toArray, List.set_cons_zero, List.set_cons_succ]
                refine wpAnyH_take (i := 10) (v := ?va49) (by simp; rfl) (by kernel_rfl) (by kernel_rfl) (by kernel_rfl) (fun _ _ _ h => h) (Or.inl ⟨by rfl, ?ya49⟩) hHeld ?ra49
                case ya49 => intro w hSw; clear hSw; go_simp; with_reducible rfl
                simp only [Act.put, List.setIfInBounds_toArray, List.set_cons_zero, List.set_cons_succ]
                refine wpAnyH_take (i := 11) (v := ?va50) (by simp; rfl) (by kernel_rfl) (by kernel_rfl) (by kernel_rfl) (fun _ _ _ h => h) (Or.inl ⟨by rfl, ?ya50⟩) hHeld ?ra50
                case ya50 => intro w hSw; clear hSw; go_simp; with_reducible rfl
                simp only [Act.put, List.setIfInBounds_toArray, List.set_cons_zero, List.set_cons_succ]
                refine wpAnyH_take (i := 12) (v := ?va51) (by simp; rfl) (by kernel_rfl) (by kernel_rfl) (by kernel_rfl) (fun _ _ _ h => h) (Or.inl ⟨by rfl, ?ya51⟩) hHeld ?ra51
                case ya51 => intro w hSw; clear hSw; go_simp; with_reducible rfl
                simp only [Act.put, List.setIfInBounds_toArray, List.set_cons_zero, List.set_cons_succ]
                refine wpAnyH_take (i := 13) (v := ?va52) (by simp; rfl) (by kernel_rfl) (by kernel_rfl) (by kernel_rfl) (fun _ _ _ h => h) (Or.inl ⟨by rfl, ?ya52⟩) hHeld ?ra52
                case ya52 => intro w hSw; clear hSw; go_simp; with_reducible rfl
                simp only [Act.put, List.setIfInBounds_toArray, List.set_cons_zero, List.set_cons_succ]
                refine wpAnyH_take (i := 14) (v := ?va53) (by simp; rfl) (by kernel_rfl) (by kernel_rfl) (by kernel_rfl) (fun _ _ _ h => h) (Or.inl ⟨by rfl, ?ya53⟩) hHeld ?ra53
                case ya53 => intro w hSw; clear hSw; go_simp; with_reducible rfl
                simp only [Act.put, List.setIfInBounds_toArray, List.set_cons_zero, List.set_cons_succ]
                refine wpAnyH_take (i := 15) (v := ?va54) (by simp; rfl) (by kernel_rfl) (by kernel_rfl) (by kernel_rfl) (fun _ _ _ h => h) (Or.inl ⟨by rfl, ?ya54⟩) hHeld ?ra54
                case ya54 => intro w hSw; have z := (HL.out w hSw).1; clear hSw; go_simp; with_reducible rfl
                simp only [Act.put, List.setIfInBounds_toArray, List.set_cons_zero, List.set_cons_succ]
                refine wpAnyH_take (i := 17) (v := ?va55) (by simp; rfl) (by kernel_rfl) (by kernel_rfl) (by kernel_rfl) (fun _ _ _ h => h) (Or.inl ⟨by rfl, ?ya55⟩) hHeld ?ra55
                case ya55 => intro w hSw; clear hSw; go_simp; with_reducible rfl
                simp only [Act.put, List.setIfInBounds_toArray, List.set_cons_zero, List.set_cons_succ]
                refine wpAnyH_ready (rs := [16]) (by kernel_rfl) (by simp) ?_
                refine AllReadyH.cons (by simp; rfl) (fun Kc hKc => ?_) AllReadyH.nil
                go_simp
                refine (HPL.out wd D.out).mono ?_
                rintro e w8 ⟨rfl, b8⟩
                have D8 : Hid (Below wr.heap.size wr w8) := below_then D.out b8
                clear b8
                refine hKc.out _ _ D8.out (fun hHeld => ?_)
                clear hKc Kc
                refine wpAnyH_take (i := 18) (v := ?va56) (by simp; rfl) (by kernel_rfl) (by kernel_rfl) (by kernel_rfl) (fun _ _ _ h => h) (Or.inl ⟨by rfl, ?ya56⟩) hHeld ?ra56
                case ya56 => intro w hSw; clear hSw; go_simp; with_reducible rfl
                simp only [Act.put, List.setIfInBounds_toArray, List.set_cons_zero, List.set_cons_succ]
                refine wpAnyH_take (i := 19) (v := ?va57) (by simp; rfl) (by kernel_rfl) (by kernel_rfl) (by kernel_rfl) (fun _ _ _ h => h) (Or.inl ⟨by rfl, ?ya57⟩) hHeld ?ra57
                case ya57 => intro w hSw; clear hSw; go_simp; with_reducible rfl
                simp only [Act.put, List.setIfInBounds_toArray, List.set_cons_zero, List.set_cons_succ]
                clear hHeld
                refine wpAnyH_done (by kernel_rfl) (NoPanic.normal ?_) _
                have hjs : IntKind.i64.wrap ((j : Int) + 1) = (j : Int) + 1 := by rw [IntKind.wrap_i64]; omega
                go_wp2_with fail
                go_roundw
                case rel => exact ⟨j + 1, by omega, by omega, by go_num, I7.out.later D8.out, S7.out.later D8.out⟩
                case measure => simp [intOf]; omega
              · have hks : IntKind.i64.wrap ((k : Int) + 1) = (k : Int) + 1 := by rw [IntKind.wrap_i64]; omega
                go_wp2_with fail
                go_roundw
                case rel => exact ⟨k + 1, m, l0, xs, by omega, by omega, rfl, rfl, rfl, by go_num, S7⟩
                case measure => simp [intOf]; omega
        · have hgt : decide (m < x) = true := decide_eq_true (by omega)
          have HX : Hid (¬ x ≤ m) := hx
          obtain ⟨ys, hys0⟩ : ∃ ys, ys = xs ++ [x] := ⟨_, rfl⟩
          have hw1 : IntKind.i64.wrap ((xs.length : Int) + 1) = (ys.length : Int) := by have := S2.out.len; rw [IntKind.wrap_i64, hys0]; simp; omega
          go_wp2_with fail
          refine (rput_hi S2.out hk3 x (by have := HX.out; omega)).mono ?_
          rintro e w2 ⟨rfl, s3⟩
          have S3 : Hid (RS wa w2 ys x l0 (k + 1)) := by rw [hys0]; exact s3
          have HNE : Hid (ys ≠ []) := by rw [hys0]; exact List.append_ne_nil_of_right_ne_nil _ (by simp)
          have cx2 := HCX.out w2 s3.below
          clear s3 cx hys0
          by_cases hb1 : k < nb
          · have hb2 : (k : Int) < (nb : Int) := by omega
            obtain ⟨tb, to, rfl, hct⟩ := HQ.out.cells (by omega)
            have ct : w2.cell? ⟨tb, to + k, none⟩ = some (.bool (f k)) := ((below_then BA.out S3.out.below).cell (p := ⟨tb, to + k, none⟩) (World.block_lt_of_cell? w _ (hct k hb1))).trans (hct k hb1)
            clear hct
            cases hf : f k
            · rw [hf] at ct
              have S5 := S3
              clear S3
              go_wp2_with fail
              refine (rlisted S5.out (by omega)).mono ?_
              rintro e w6 ⟨ql, cl, rfl, hI, s6⟩
              have I6 : Hid (UIn w6 ql ys.length ys) := hI
              have S6 : Hid (RS wa w6 ys x l0 (k + 1)) := s6
              clear hI s6 S5
              clear hw1 hgt ct
              go_wp2_with fail
              refine (rlen S6.out).mono ?_
              rintro e w6' ⟨rfl, rfl⟩
              go_wp2_with fail
              go_loopw [15] (fun kk wx => ∃ j : Nat, 1 ≤ j ∧ j ≤ ys.length + 1 ∧ kk = .int .i64 j ∧ Hid (UIn wx ql ys.length ys) ∧ Hid (RS wa wx ys x l0 (k + 1))) (fun kk _ => ys.length + 1 - (intOf kk).toNat)
              case atStart => exact ⟨1, Nat.le_refl _, by omega, rfl, I6, S6⟩
              case round =>
                clear I6 S6
                obtain ⟨j, hj1, hj2, rfl, I7, S7⟩ := hrel
                have hzl : ys.length ≤ 200 := by have := S7.out.len; omega
                by_cases hj : j < ys.length
                · have j1 : (j : Int) < (ys.length : Int) := by omega
                  obtain ⟨lb, lo, rfl, hcl⟩ := I7.out.cells (by omega)
                  obtain ⟨jm, hjm⟩ : ∃ jm : Nat, jm = j - 1 := ⟨_, rfl⟩
                  have hjw : IntKind.i64.wrap ((j : Int) - 1) = (jm : Int) := by rw [IntKind.wrap_i64]; omega
                  have jm1 : jm < ys.length := by omega
                  have jm2 : (jm : Int) < (ys.length : Int) := by omega
                  have hcj := hcl j hj
                  have hcm := hcl jm jm1
                  have HL : Hid (∀ w', Below wr.heap.size wr w' → w'.cell? ⟨lb, lo + j, none⟩ = some (.int .u64 (ys.getD j 0)) ∧ w'.cell? ⟨lb, lo + jm, none⟩ = some (.int .u64 (ys.getD jm 0))) := fun w' hb => ⟨(hb.cell (p := ⟨lb, lo + j, none⟩) (World.block_lt_of_cell? wr _ hcj)).trans hcj, (hb.cell (p := ⟨lb, lo + jm, none⟩) (World.block_lt_of_cell? wr _ hcm)).trans hcm⟩
                  have hlt : ys.getD jm 0 < ys.getD j 0 := by rw [hjm]; exact rise_get S7.out.up hj1 hj
                  have HPL : Hid (∀ w', Below wr.heap.size wr w' → Calls Try.prog 11 #[qp wa.heap.size, .int .u64 (ys.getD j 0)] w' fun e w'' => e = .returned (.int .i64 j) ∧ Below w'.heap.size w' w'') := fun w' hb => rplace (S7.out.later hb) (by omega) j hj
                  have hdl : decide (ys.getD j 0 ≤ ys.getD jm 0) = false := decide_eq_false (by omega)
                  generalize ys.getD j 0 = yj at *
                  generalize ys.getD jm 0 = ym at *
                  have hjn : ((j : Int) != (j : Int)) = false := by simp
                  clear hcl hcj hcm hlt hjm
                  go_wp2_with fail
                  refine wp_region_noPanic ?_
                  refine wp_region_held_drew (S := fun w' => Below wr.heap.size wr w') (by kernel_rfl) (below_drawn 1) (fun hHeld => ?_)
                  have D : Hid (Below wr.heap.size wr wr.drew) := hHeld
                  generalize wr.drew = wd at *
                  refine wpAnyH_take (i := 0) (v := ?va58) (by simp; rfl) (by kernel_rfl) (by kernel_rfl) (by kernel_rfl) (fun _ _ _ h => h) (Or.inl ⟨by rfl, ?ya58⟩) hHeld ?ra58
                  case ya58 => intro w hSw; clear hSw; go_simp; with_reducible rfl
                  simp only [Act.put, List.setIfInBounds_toArray, List.set_cons_zero, List.set_cons_succ]
                  refine wpAnyH_take (i := 1) (v := ?va59) (by simp; rfl) (by kernel_rfl) (by kernel_rfl) (by kernel_rfl) (fun _ _ _ h => h) (Or.inl ⟨by rfl, ?ya59⟩) hHeld ?ra59
                  case ya59 => intro w hSw; clear hSw; go_simp; with_reducible rfl
                  simp only [Act.put, List.setIfInBounds_toArray, List.set_cons_zero, List.set_cons_succ]
                  refine wpAnyH_take (i := 2) (v := ?va60) (by simp; rfl) (by kernel_rfl) (by kernel_rfl) (by kernel_rfl) (fun _ _ _ h => h) (Or.inl ⟨by rfl, ?ya60⟩) hHeld ?ra60
                  case ya60 => intro w hSw; clear hSw; go_simp; with_reducible rfl
                  simp only [Act.put, List.setIfInBounds_toArray, List.set_cons_zero, List.set_cons_succ]
                  refine wpAnyH_take (i := 3) (v := ?va61) (by simp; rfl) (by kernel_rfl) (by kernel_rfl) (by kernel_rfl) (fun _ _ _ h => h) (Or.inl ⟨by rfl, ?ya61⟩) hHeld ?ra61
                  case ya61 => intro w hSw; have z := (HL.out w hSw).1; clear hSw; go_simp; with_reducible rfl
                  simp only [Act.put, List.setIfInBounds_toArray, List.set_cons_zero, List.set_cons_succ]
                  refine wpAnyH_take (i := 4) (v := ?va62) (by simp; rfl) (by kernel_rfl) (by kernel_rfl) (by kernel_rfl) (fun _ _ _ h => h) (Or.inl ⟨by rfl, ?ya62⟩) hHeld ?ra62
                  case ya62 => intro w hSw; clear hSw; go_simp; with_reducible rfl
                  simp only [Act.put, List.setIfInBounds_toArray, List.set_cons_zero, List.set_cons_succ]
                  refine wpAnyH_take (i := 5) (v := ?va63) (by simp; rfl) (by kernel_rfl) (by kernel_rfl) (by kernel_rfl) (fun _ _ _ h => h) (Or.inl ⟨by rfl, ?ya63⟩) hHeld ?ra63
                  case ya63 => intro w hSw; clear hSw; go_simp; with_reducible rfl
                  simp only [Act.put, List.setIfInBounds_toArray, List.set_cons_zero, List.set_cons_succ]
                  refine wpAnyH_take (i := 6) (v := ?va64) (by simp; rfl) (by kernel_rfl) (by kernel_rfl) (by kernel_rfl) (fun _ _ _ h => h) (Or.inl ⟨by rfl, ?ya64⟩) hHeld ?ra64
                  case ya64 => intro w hSw; clear hSw; go_simp; with_reducible rfl
                  simp only [Act.put, List.setIfInBounds_toArray, List.set_cons_zero, List.set_cons_succ]
                  refine wpAnyH_take (i := 7) (v := ?va65) (by simp; rfl) (by kernel_rfl) (by kernel_rfl) (by kernel_rfl) (fun _ _ _ h => h) (Or.inl ⟨by rfl, ?ya65⟩) hHeld ?ra65
                  case ya65 => intro w hSw; clear hSw; go_simp; with_reducible rfl
                  simp only [Act.put, List.setIfInBounds_toArray, List.set_cons_zero, List.set_cons_succ]
                  refine wpAnyH_take (i := 8) (v := ?va66) (by simp; rfl) (by kernel_rfl) (by kernel_rfl) (by kernel_rfl) (fun _ _ _ h => h) (Or.inl ⟨by rfl, ?ya66⟩) hHeld ?ra66
                  case ya66 => intro w hSw; have z := (HL.out w hSw).2; clear hSw; go_simp; with_reducible rfl
                  simp only [Act.put, List.setIfInBounds_toArray, List.set_cons_zero, List.set_cons_succ]
                  refine wpAnyH_take (i := 9) (v := ?va67) (by simp; rfl) (by kernel_rfl) (by kernel_rfl) (by kernel_rfl) (fun _ _ _ h => h) (Or.inl ⟨by rfl, ?ya67⟩) hHeld ?ra67
                  case ya67 => intro w hSw; clear hSw; go_simp; with_reducible rfl
                  simp only [Act.put, List.setIfInBounds_toArray, List.set_cons_zero, List.set_cons_succ]
                  refine wpAnyH_take (i := 10) (v := ?va68) (by simp; rfl) (by kernel_rfl) (by kernel_rfl) (by kernel_rfl) (fun _ _ _ h => h) (Or.inl ⟨by rfl, ?ya68⟩) hHeld ?ra68
                  case ya68 => intro w hSw; clear hSw; go_simp; with_reducible rfl
                  simp only [Act.put, List.setIfInBounds_toArray, List.set_cons_zero, List.set_cons_succ]
                  refine wpAnyH_take (i := 11) (v := ?va69) (by simp; rfl) (by kernel_rfl) (by kernel_rfl) (by kernel_rfl) (fun _ _ _ h => h) (Or.inl ⟨by rfl, ?ya69⟩) hHeld ?ra69
                  case ya69 => intro w hSw; clear hSw; go_simp; with_reducible rfl
                  simp only [Act.put, List.setIfInBounds_toArray, List.set_cons_zero, List.set_cons_succ]
                  refine wpAnyH_take (i := 12) (v := ?va70) (by simp; rfl) (by kernel_rfl) (by kernel_rfl) (by kernel_rfl) (fun _ _ _ h => h) (Or.inl ⟨by rfl, ?ya70⟩) hHeld ?ra70
                  case ya70 => intro w hSw; clear hSw; go_simp; with_reducible rfl
                  simp only [Act.put, List.setIfInBounds_toArray, List.set_cons_zero, List.set_cons_succ]
                  refine wpAnyH_take (i := 13) (v := ?va71) (by simp; rfl) (by kernel_rfl) (by kernel_rfl) (by kernel_rfl) (fun _ _ _ h => h) (Or.inl ⟨by rfl, ?ya71⟩) hHeld ?ra71
                  case ya71 => intro w hSw; clear hSw; go_simp; with_reducible rfl
                  simp only [Act.put, List.setIfInBounds_toArray, List.set_cons_zero, List.set_cons_succ]
                  refine wpAnyH_take (i := 14) (v := ?va72) (by simp; rfl) (by kernel_rfl) (by kernel_rfl) (by kernel_rfl) (fun _ _ _ h => h) (Or.inl ⟨by rfl, ?ya72⟩) hHeld ?ra72
                  case ya72 => intro w hSw; clear hSw; go_simp; with_reducible rfl
                  simp only [Act.put, List.setIfInBounds_toArray, List.set_cons_zero, List.set_cons_succ]
                  refine wpAnyH_take (i := 15) (v := ?va73) (by simp; rfl) (by kernel_rfl) (by kernel_rfl) (by kernel_rfl) (fun _ _ _ h => h) (Or.inl ⟨by rfl, ?ya73⟩) hHeld ?ra73
                  case ya73 => intro w hSw; have z := (HL.out w hSw).1; clear hSw; go_simp; with_reducible rfl
                  simp only [Act.put, List.setIfInBounds_toArray, List.set_cons_zero, List.set_cons_succ]
                  refine wpAnyH_take (i := 17) (v := ?va74) (by simp; rfl) (by kernel_rfl) (by kernel_rfl) (by kernel_rfl) (fun _ _ _ h => h) (Or.inl ⟨by rfl, ?ya74⟩) hHeld ?ra74
                  case ya74 => intro w hSw; clear hSw; go_simp; with_reducible rfl
                  simp only [Act.put, List.setIfInBounds_toArray, List.set_cons_zero, List.set_cons_succ]
                  refine wpAnyH_ready (rs := [16]) (by kernel_rfl) (by simp) ?_
                  refine AllReadyH.cons (by simp; rfl) (fun Kc hKc => ?_) AllReadyH.nil
                  go_simp
                  refine (HPL.out wd D.out).mono ?_
                  rintro e w8 ⟨rfl, b8⟩
                  have D8 : Hid (Below wr.heap.size wr w8) := below_then D.out b8
                  clear b8
                  refine hKc.out _ _ D8.out (fun hHeld => ?_)
                  clear hKc Kc
                  refine wpAnyH_take (i := 18) (v := ?va75) (by simp; rfl) (by kernel_rfl) (by kernel_rfl) (by kernel_rfl) (fun _ _ _ h => h) (Or.inl ⟨by rfl, ?ya75⟩) hHeld ?ra75
                  case ya75 => intro w hSw; clear hSw; go_simp; with_reducible rfl
                  simp only [Act.put, List.setIfInBounds_toArray, List.set_cons_zero, List.set_cons_succ]
                  refine wpAnyH_take (i := 19) (v := ?va76) (by simp; rfl) (by kernel_rfl) (by kernel_rfl) (by kernel_rfl) (fun _ _ _ h => h) (Or.inl ⟨by rfl, ?ya76⟩) hHeld ?ra76
                  case ya76 => intro w hSw; clear hSw; go_simp; with_reducible rfl
                  simp only [Act.put, List.setIfInBounds_toArray, List.set_cons_zero, List.set_cons_succ]
                  clear hHeld
                  refine wpAnyH_done (by kernel_rfl) (NoPanic.normal ?_) _
                  have hjs : IntKind.i64.wrap ((j : Int) + 1) = (j : Int) + 1 := by rw [IntKind.wrap_i64]; omega
                  go_wp2_with fail
                  go_roundw
                  case rel => exact ⟨j + 1, by omega, by omega, by go_num, I7.out.later D8.out, S7.out.later D8.out⟩
                  case measure => simp [intOf]; omega
                · have hks : IntKind.i64.wrap ((k : Int) + 1) = (k : Int) + 1 := by rw [IntKind.wrap_i64]; omega
                  go_wp2_with fail
                  go_roundw
                  case rel => exact ⟨k + 1, x, l0, ys, by omega, by omega, rfl, rfl, rfl, by go_num, S7⟩
                  case measure => simp [intOf]; omega
            · rw [hf] at ct
              rcases list_parts ys with hys | ⟨y, zs, hys⟩
              · skip
                exact absurd hys HNE.out
              · skip
                have HYS : Hid (ys = y :: zs) := hys
                have hlz : ys.length = zs.length + 1 := by rw [hys]; rfl
                have hpos : decide ((0 : Int) < (ys.length : Int)) = true := decide_eq_true (by omega)
                have hyl : decide (y ≤ l0) = false := decide_eq_false (by have := S3.out.above y (by rw [hys]; simp); omega)
                have hws : IntKind.i64.wrap ((ys.length : Int) - 1) = (zs.length : Int) := by have := S3.out.len; rw [IntKind.wrap_i64]; omega
                have hwz : 0 < ys.length := by omega
                clear hys hlz
                go_wp2_with fail
                refine (rtake_yes S3.out HYS.out (by omega)).mono ?_
                rintro e w5 ⟨rfl, s5⟩
                have S5 : Hid (RS wa w5 zs x y (k + 1)) := s5
                clear s5 S3
                go_wp2_with fail
                refine (rlisted S5.out (by omega)).mono ?_
                rintro e w6 ⟨ql, cl, rfl, hI, s6⟩
                have I6 : Hid (UIn w6 ql zs.length zs) := hI
                have S6 : Hid (RS wa w6 zs x y (k + 1)) := s6
                clear hI s6 S5
                clear hw1 hgt ct hws hpos hyl hwz
                go_wp2_with fail
                refine (rlen S6.out).mono ?_
                rintro e w6' ⟨rfl, rfl⟩
                go_wp2_with fail
                go_loopw [15] (fun kk wx => ∃ j : Nat, 1 ≤ j ∧ j ≤ zs.length + 1 ∧ kk = .int .i64 j ∧ Hid (UIn wx ql zs.length zs) ∧ Hid (RS wa wx zs x y (k + 1))) (fun kk _ => zs.length + 1 - (intOf kk).toNat)
                case atStart => exact ⟨1, Nat.le_refl _, by omega, rfl, I6, S6⟩
                case round =>
                  clear I6 S6
                  obtain ⟨j, hj1, hj2, rfl, I7, S7⟩ := hrel
                  have hzl : zs.length ≤ 200 := by have := S7.out.len; omega
                  by_cases hj : j < zs.length
                  · have j1 : (j : Int) < (zs.length : Int) := by omega
                    obtain ⟨lb, lo, rfl, hcl⟩ := I7.out.cells (by omega)
                    obtain ⟨jm, hjm⟩ : ∃ jm : Nat, jm = j - 1 := ⟨_, rfl⟩
                    have hjw : IntKind.i64.wrap ((j : Int) - 1) = (jm : Int) := by rw [IntKind.wrap_i64]; omega
                    have jm1 : jm < zs.length := by omega
                    have jm2 : (jm : Int) < (zs.length : Int) := by omega
                    have hcj := hcl j hj
                    have hcm := hcl jm jm1
                    have HL : Hid (∀ w', Below wr.heap.size wr w' → w'.cell? ⟨lb, lo + j, none⟩ = some (.int .u64 (zs.getD j 0)) ∧ w'.cell? ⟨lb, lo + jm, none⟩ = some (.int .u64 (zs.getD jm 0))) := fun w' hb => ⟨(hb.cell (p := ⟨lb, lo + j, none⟩) (World.block_lt_of_cell? wr _ hcj)).trans hcj, (hb.cell (p := ⟨lb, lo + jm, none⟩) (World.block_lt_of_cell? wr _ hcm)).trans hcm⟩
                    have hlt : zs.getD jm 0 < zs.getD j 0 := by rw [hjm]; exact rise_get S7.out.up hj1 hj
                    have HPL : Hid (∀ w', Below wr.heap.size wr w' → Calls Try.prog 11 #[qp wa.heap.size, .int .u64 (zs.getD j 0)] w' fun e w'' => e = .returned (.int .i64 j) ∧ Below w'.heap.size w' w'') := fun w' hb => rplace (S7.out.later hb) (by omega) j hj
                    have hdl : decide (zs.getD j 0 ≤ zs.getD jm 0) = false := decide_eq_false (by omega)
                    generalize zs.getD j 0 = yj at *
                    generalize zs.getD jm 0 = ym at *
                    have hjn : ((j : Int) != (j : Int)) = false := by simp
                    clear hcl hcj hcm hlt hjm
                    go_wp2_with fail
                    refine wp_region_noPanic ?_
                    refine wp_region_held_drew (S := fun w' => Below wr.heap.size wr w') (by kernel_rfl) (below_drawn 1) (fun hHeld => ?_)
                    have D : Hid (Below wr.heap.size wr wr.drew) := hHeld
                    generalize wr.drew = wd at *
                    refine wpAnyH_take (i := 0) (v := ?va77) (by simp; rfl) (by kernel_rfl) (by kernel_rfl) (by kernel_rfl) (fun _ _ _ h => h) (Or.inl ⟨by rfl, ?ya77⟩) hHeld ?ra77
                    case ya77 => intro w hSw; clear hSw; go_simp; with_reducible rfl
                    simp only [Act.put, List.setIfInBounds_toArray, List.set_cons_zero, List.set_cons_succ]
                    refine wpAnyH_take (i := 1) (v := ?va78) (by simp; rfl) (by kernel_rfl) (by kernel_rfl) (by kernel_rfl) (fun _ _ _ h => h) (Or.inl ⟨by rfl, ?ya78⟩) hHeld ?ra78
                    case ya78 => intro w hSw; clear hSw; go_simp; with_reducible rfl
                    simp only [Act.put, List.setIfInBounds_toArray, List.set_cons_zero, List.set_cons_succ]
                    refine wpAnyH_take (i := 2) (v := ?va79) (by simp; rfl) (by kernel_rfl) (by kernel_rfl) (by kernel_rfl) (fun _ _ _ h => h) (Or.inl ⟨by rfl, ?ya79⟩) hHeld ?ra79
                    case ya79 => intro w hSw; clear hSw; go_simp; with_reducible rfl
                    simp only [Act.put, List.setIfInBounds_toArray, List.set_cons_zero, List.set_cons_succ]
                    refine wpAnyH_take (i := 3) (v := ?va80) (by simp; rfl) (by kernel_rfl) (by kernel_rfl) (by kernel_rfl) (fun _ _ _ h => h) (Or.inl ⟨by rfl, ?ya80⟩) hHeld ?ra80
                    case ya80 => intro w hSw; have z := (HL.out w hSw).1; clear hSw; go_simp; with_reducible rfl
                    simp only [Act.put, List.setIfInBounds_toArray, List.set_cons_zero, List.set_cons_succ]
                    refine wpAnyH_take (i := 4) (v := ?va81) (by simp; rfl) (by kernel_rfl) (by kernel_rfl) (by kernel_rfl) (fun _ _ _ h => h) (Or.inl ⟨by rfl, ?ya81⟩) hHeld ?ra81
                    case ya81 => intro w hSw; clear hSw; go_simp; with_reducible rfl
                    simp only [Act.put, List.setIfInBounds_toArray, List.set_cons_zero, List.set_cons_succ]
                    refine wpAnyH_take (i := 5) (v := ?va82) (by simp; rfl) (by kernel_rfl) (by kernel_rfl) (by kernel_rfl) (fun _ _ _ h => h) (Or.inl ⟨by rfl, ?ya82⟩) hHeld ?ra82
                    case ya82 => intro w hSw; clear hSw; go_simp; with_reducible rfl
                    simp only [Act.put, List.setIfInBounds_toArray, List.set_cons_zero, List.set_cons_succ]
                    refine wpAnyH_take (i := 6) (v := ?va83) (by simp; rfl) (by kernel_rfl) (by kernel_rfl) (by kernel_rfl) (fun _ _ _ h => h) (Or.inl ⟨by rfl, ?ya83⟩) hHeld ?ra83
                    case ya83 => intro w hSw; clear hSw; go_simp; with_reducible rfl
                    simp only [Act.put, List.setIfInBounds_toArray, List.set_cons_zero, List.set_cons_succ]
                    refine wpAnyH_take (i := 7) (v := ?va84) (by simp; rfl) (by kernel_rfl) (by kernel_rfl) (by kernel_rfl) (fun _ _ _ h => h) (Or.inl ⟨by rfl, ?ya84⟩) hHeld ?ra84
                    case ya84 => intro w hSw; clear hSw; go_simp; with_reducible rfl
                    simp only [Act.put, List.setIfInBounds_toArray, List.set_cons_zero, List.set_cons_succ]
                    refine wpAnyH_take (i := 8) (v := ?va85) (by simp; rfl) (by kernel_rfl) (by kernel_rfl) (by kernel_rfl) (fun _ _ _ h => h) (Or.inl ⟨by rfl, ?ya85⟩) hHeld ?ra85
                    case ya85 => intro w hSw; have z := (HL.out w hSw).2; clear hSw; go_simp; with_reducible rfl
                    simp only [Act.put, List.setIfInBounds_toArray, List.set_cons_zero, List.set_cons_succ]
                    refine wpAnyH_take (i := 9) (v := ?va86) (by simp; rfl) (by kernel_rfl) (by kernel_rfl) (by kernel_rfl) (fun _ _ _ h => h) (Or.inl ⟨by rfl, ?ya86⟩) hHeld ?ra86
                    case ya86 => intro w hSw; clear hSw; go_simp; with_reducible rfl
                    simp only [Act.put, List.setIfInBounds_toArray, List.set_cons_zero, List.set_cons_succ]
                    refine wpAnyH_take (i := 10) (v := ?va87) (by simp; rfl) (by kernel_rfl) (by kernel_rfl) (by kernel_rfl) (fun _ _ _ h => h) (Or.inl ⟨by rfl, ?ya87⟩) hHeld ?ra87
                    case ya87 => intro w hSw; clear hSw; go_simp; with_reducible rfl
                    simp only [Act.put, List.setIfInBounds_toArray, List.set_cons_zero, List.set_cons_succ]
                    refine wpAnyH_take (i := 11) (v := ?va88) (by simp; rfl) (by kernel_rfl) (by kernel_rfl) (by kernel_rfl) (fun _ _ _ h => h) (Or.inl ⟨by rfl, ?ya88⟩) hHeld ?ra88
                    case ya88 => intro w hSw; clear hSw; go_simp; with_reducible rfl
                    simp only [Act.put, List.setIfInBounds_toArray, List.set_cons_zero, List.set_cons_succ]
                    refine wpAnyH_take (i := 12) (v := ?va89) (by simp; rfl) (by kernel_rfl) (by kernel_rfl) (by kernel_rfl) (fun _ _ _ h => h) (Or.inl ⟨by rfl, ?ya89⟩) hHeld ?ra89
                    case ya89 => intro w hSw; clear hSw; go_simp; with_reducible rfl
                    simp only [Act.put, List.setIfInBounds_toArray, List.set_cons_zero, List.set_cons_succ]
                    refine wpAnyH_take (i := 13) (v := ?va90) (by simp; rfl) (by kernel_rfl) (by kernel_rfl) (by kernel_rfl) (fun _ _ _ h => h) (Or.inl ⟨by rfl, ?ya90⟩) hHeld ?ra90
                    case ya90 => intro w hSw; clear hSw; go_simp; with_reducible rfl
                    simp only [Act.put, List.setIfInBounds_toArray, List.set_cons_zero, List.set_cons_succ]
                    refine wpAnyH_take (i := 14) (v := ?va91) (by simp; rfl) (by kernel_rfl) (by kernel_rfl) (by kernel_rfl) (fun _ _ _ h => h) (Or.inl ⟨by rfl, ?ya91⟩) hHeld ?ra91
                    case ya91 => intro w hSw; clear hSw; go_simp; with_reducible rfl
                    simp only [Act.put, List.setIfInBounds_toArray, List.set_cons_zero, List.set_cons_succ]
                    refine wpAnyH_take (i := 15) (v := ?va92) (by simp; rfl) (by kernel_rfl) (by kernel_rfl) (by kernel_rfl) (fun _ _ _ h => h) (Or.inl ⟨by rfl, ?ya92⟩) hHeld ?ra92
                    case ya92 => intro w hSw; have z := (HL.out w hSw).1; clear hSw; go_simp; with_reducible rfl
                    simp only [Act.put, List.setIfInBounds_toArray, List.set_cons_zero, List.set_cons_succ]
                    refine wpAnyH_take (i := 17) (v := ?va93) (by simp; rfl) (by kernel_rfl) (by kernel_rfl) (by kernel_rfl) (fun _ _ _ h => h) (Or.inl ⟨by rfl, ?ya93⟩) hHeld ?ra93
                    case ya93 => intro w hSw; clear hSw; go_simp; with_reducible rfl
                    simp only [Act.put, List.setIfInBounds_toArray, List.set_cons_zero, List.set_cons_succ]
                    refine wpAnyH_ready (rs := [16]) (by kernel_rfl) (by simp) ?_
                    refine AllReadyH.cons (by simp; rfl) (fun Kc hKc => ?_) AllReadyH.nil
                    go_simp
                    refine (HPL.out wd D.out).mono ?_
                    rintro e w8 ⟨rfl, b8⟩
                    have D8 : Hid (Below wr.heap.size wr w8) := below_then D.out b8
                    clear b8
                    refine hKc.out _ _ D8.out (fun hHeld => ?_)
                    clear hKc Kc
                    refine wpAnyH_take (i := 18) (v := ?va94) (by simp; rfl) (by kernel_rfl) (by kernel_rfl) (by kernel_rfl) (fun _ _ _ h => h) (Or.inl ⟨by rfl, ?ya94⟩) hHeld ?ra94
                    case ya94 => intro w hSw; clear hSw; go_simp; with_reducible rfl
                    simp only [Act.put, List.setIfInBounds_toArray, List.set_cons_zero, List.set_cons_succ]
                    refine wpAnyH_take (i := 19) (v := ?va95) (by simp; rfl) (by kernel_rfl) (by kernel_rfl) (by kernel_rfl) (fun _ _ _ h => h) (Or.inl ⟨by rfl, ?ya95⟩) hHeld ?ra95
                    case ya95 => intro w hSw; clear hSw; go_simp; with_reducible rfl
                    simp only [Act.put, List.setIfInBounds_toArray, List.set_cons_zero, List.set_cons_succ]
                    clear hHeld
                    refine wpAnyH_done (by kernel_rfl) (NoPanic.normal ?_) _
                    have hjs : IntKind.i64.wrap ((j : Int) + 1) = (j : Int) + 1 := by rw [IntKind.wrap_i64]; omega
                    go_wp2_with fail
                    go_roundw
                    case rel => exact ⟨j + 1, by omega, by omega, by go_num, I7.out.later D8.out, S7.out.later D8.out⟩
                    case measure => simp [intOf]; omega
                  · have hks : IntKind.i64.wrap ((k : Int) + 1) = (k : Int) + 1 := by rw [IntKind.wrap_i64]; omega
                    go_wp2_with fail
                    go_roundw
                    case rel => exact ⟨k + 1, x, y, zs, by omega, by omega, rfl, rfl, rfl, by go_num, S7⟩
                    case measure => simp [intOf]; omega
          · have hb2 : ¬ (k : Int) < (nb : Int) := by omega
            have S5 := S3
            clear S3
            go_wp2_with fail
            refine (rlisted S5.out (by omega)).mono ?_
            rintro e w6 ⟨ql, cl, rfl, hI, s6⟩
            have I6 : Hid (UIn w6 ql ys.length ys) := hI
            have S6 : Hid (RS wa w6 ys x l0 (k + 1)) := s6
            clear hI s6 S5
            clear hw1 hgt hb2
            go_wp2_with fail
            refine (rlen S6.out).mono ?_
            rintro e w6' ⟨rfl, rfl⟩
            go_wp2_with fail
            go_loopw [15] (fun kk wx => ∃ j : Nat, 1 ≤ j ∧ j ≤ ys.length + 1 ∧ kk = .int .i64 j ∧ Hid (UIn wx ql ys.length ys) ∧ Hid (RS wa wx ys x l0 (k + 1))) (fun kk _ => ys.length + 1 - (intOf kk).toNat)
            case atStart => exact ⟨1, Nat.le_refl _, by omega, rfl, I6, S6⟩
            case round =>
              clear I6 S6
              obtain ⟨j, hj1, hj2, rfl, I7, S7⟩ := hrel
              have hzl : ys.length ≤ 200 := by have := S7.out.len; omega
              by_cases hj : j < ys.length
              · have j1 : (j : Int) < (ys.length : Int) := by omega
                obtain ⟨lb, lo, rfl, hcl⟩ := I7.out.cells (by omega)
                obtain ⟨jm, hjm⟩ : ∃ jm : Nat, jm = j - 1 := ⟨_, rfl⟩
                have hjw : IntKind.i64.wrap ((j : Int) - 1) = (jm : Int) := by rw [IntKind.wrap_i64]; omega
                have jm1 : jm < ys.length := by omega
                have jm2 : (jm : Int) < (ys.length : Int) := by omega
                have hcj := hcl j hj
                have hcm := hcl jm jm1
                have HL : Hid (∀ w', Below wr.heap.size wr w' → w'.cell? ⟨lb, lo + j, none⟩ = some (.int .u64 (ys.getD j 0)) ∧ w'.cell? ⟨lb, lo + jm, none⟩ = some (.int .u64 (ys.getD jm 0))) := fun w' hb => ⟨(hb.cell (p := ⟨lb, lo + j, none⟩) (World.block_lt_of_cell? wr _ hcj)).trans hcj, (hb.cell (p := ⟨lb, lo + jm, none⟩) (World.block_lt_of_cell? wr _ hcm)).trans hcm⟩
                have hlt : ys.getD jm 0 < ys.getD j 0 := by rw [hjm]; exact rise_get S7.out.up hj1 hj
                have HPL : Hid (∀ w', Below wr.heap.size wr w' → Calls Try.prog 11 #[qp wa.heap.size, .int .u64 (ys.getD j 0)] w' fun e w'' => e = .returned (.int .i64 j) ∧ Below w'.heap.size w' w'') := fun w' hb => rplace (S7.out.later hb) (by omega) j hj
                have hdl : decide (ys.getD j 0 ≤ ys.getD jm 0) = false := decide_eq_false (by omega)
                generalize ys.getD j 0 = yj at *
                generalize ys.getD jm 0 = ym at *
                have hjn : ((j : Int) != (j : Int)) = false := by simp
                clear hcl hcj hcm hlt hjm
                go_wp2_with fail
                refine wp_region_noPanic ?_
                refine wp_region_held_drew (S := fun w' => Below wr.heap.size wr w') (by kernel_rfl) (below_drawn 1) (fun hHeld => ?_)
                have D : Hid (Below wr.heap.size wr wr.drew) := hHeld
                generalize wr.drew = wd at *
                refine wpAnyH_take (i := 0) (v := ?va96) (by simp; rfl) (by kernel_rfl) (by kernel_rfl) (by kernel_rfl) (fun _ _ _ h => h) (Or.inl ⟨by rfl, ?ya96⟩) hHeld ?ra96
                case ya96 => intro w hSw; clear hSw; go_simp; with_reducible rfl
                simp only [Act.put, List.setIfInBounds_toArray, List.set_cons_zero, List.set_cons_succ]
                refine wpAnyH_take (i := 1) (v := ?va97) (by simp; rfl) (by kernel_rfl) (by kernel_rfl) (by kernel_rfl) (fun _ _ _ h => h) (Or.inl ⟨by rfl, ?ya97⟩) hHeld ?ra97
                case ya97 => intro w hSw; clear hSw; go_simp; with_reducible rfl
                simp only [Act.put, List.setIfInBounds_toArray, List.set_cons_zero, List.set_cons_succ]
                refine wpAnyH_take (i := 2) (v := ?va98) (by simp; rfl) (by kernel_rfl) (by kernel_rfl) (by kernel_rfl) (fun _ _ _ h => h) (Or.inl ⟨by rfl, ?ya98⟩) hHeld ?ra98
                case ya98 => intro w hSw; clear hSw; go_simp; with_reducible rfl
                simp only [Act.put, List.setIfInBounds_toArray, List.set_cons_zero, List.set_cons_succ]
                refine wpAnyH_take (i := 3) (v := ?va99) (by simp; rfl) (by kernel_rfl) (by kernel_rfl) (by kernel_rfl) (fun _ _ _ h => h) (Or.inl ⟨by rfl, ?ya99⟩) hHeld ?ra99
                case ya99 => intro w hSw; have z := (HL.out w hSw).1; clear hSw; go_simp; with_reducible rfl
                simp only [Act.put, List.setIfInBounds_toArray, List.set_cons_zero, List.set_cons_succ]
                refine wpAnyH_take (i := 4) (v := ?va100) (by simp; rfl) (by kernel_rfl) (by kernel_rfl) (by kernel_rfl) (fun _ _ _ h => h) (Or.inl ⟨by rfl, ?ya100⟩) hHeld ?ra100
                case ya100 => intro w hSw; clear hSw; go_simp; with_reducible rfl
                simp only [Act.put, List.setIfInBounds_toArray, List.set_cons_zero, List.set_cons_succ]
                refine wpAnyH_take (i := 5) (v := ?va101) (by simp; rfl) (by kernel_rfl) (by kernel_rfl) (by kernel_rfl) (fun _ _ _ h => h) (Or.inl ⟨by rfl, ?ya101⟩) hHeld ?ra101
                case ya101 => intro w hSw; clear hSw; go_simp; with_reducible rfl
                simp only [Act.put, List.setIfInBounds_toArray, List.set_cons_zero, List.set_cons_succ]
                refine wpAnyH_take (i := 6) (v := ?va102) (by simp; rfl) (by kernel_rfl) (by kernel_rfl) (by kernel_rfl) (fun _ _ _ h => h) (Or.inl ⟨by rfl, ?ya102⟩) hHeld ?ra102
                case ya102 => intro w hSw; clear hSw; go_simp; with_reducible rfl
                simp only [Act.put, List.setIfInBounds_toArray, List.set_cons_zero, List.set_cons_succ]
                refine wpAnyH_take (i := 7) (v := ?va103) (by simp; rfl) (by kernel_rfl) (by kernel_rfl) (by kernel_rfl) (fun _ _ _ h => h) (Or.inl ⟨by rfl, ?ya103⟩) hHeld ?ra103
                case ya103 => intro w hSw; clear hSw; go_simp; with_reducible rfl
                simp only [Act.put, List.setIfInBounds_toArray, List.set_cons_zero, List.set_cons_succ]
                refine wpAnyH_take (i := 8) (v := ?va104) (by simp; rfl) (by kernel_rfl) (by kernel_rfl) (by kernel_rfl) (fun _ _ _ h => h) (Or.inl ⟨by rfl, ?ya104⟩) hHeld ?ra104
                case ya104 => intro w hSw; have z := (HL.out w hSw).2; clear hSw; go_simp; with_reducible rfl
                simp only [Act.put, List.setIfInBounds_toArray, List.set_cons_zero, List.set_cons_succ]
                refine wpAnyH_take (i := 9) (v := ?va105) (by simp; rfl) (by kernel_rfl) (by kernel_rfl) (by kernel_rfl) (fun _ _ _ h => h) (Or.inl ⟨by rfl, ?ya105⟩) hHeld ?ra105
                case ya105 => intro w hSw; clear hSw; go_simp; with_reducible rfl
                simp only [Act.put, List.setIfInBounds_toArray, List.set_cons_zero, List.set_cons_succ]
                refine wpAnyH_take (i := 10) (v := ?va106) (by simp; rfl) (by kernel_rfl) (by kernel_rfl) (by kernel_rfl) (fun _ _ _ h => h) (Or.inl ⟨by rfl, ?ya106⟩) hHeld ?ra106
                case ya106 => intro w hSw; clear hSw; go_simp; with_reducible rfl
                simp only [Act.put, List.setIfInBounds_toArray, List.set_cons_zero, List.set_cons_succ]
                refine wpAnyH_take (i := 11) (v := ?va107) (by simp; rfl) (by kernel_rfl) (by kernel_rfl) (by kernel_rfl) (fun _ _ _ h => h) (Or.inl ⟨by rfl, ?ya107⟩) hHeld ?ra107
                case ya107 => intro w hSw; clear hSw; go_simp; with_reducible rfl
                simp only [Act.put, List.setIfInBounds_toArray, List.set_cons_zero, List.set_cons_succ]
                refine wpAnyH_take (i := 12) (v := ?va108) (by simp; rfl) (by kernel_rfl) (by kernel_rfl) (by kernel_rfl) (fun _ _ _ h => h) (Or.inl ⟨by rfl, ?ya108⟩) hHeld ?ra108
                case ya108 => intro w hSw; clear hSw; go_simp; with_reducible rfl
                simp only [Act.put, List.setIfInBounds_toArray, List.set_cons_zero, List.set_cons_succ]
                refine wpAnyH_take (i := 13) (v := ?va109) (by simp; rfl) (by kernel_rfl) (by kernel_rfl) (by kernel_rfl) (fun _ _ _ h => h) (Or.inl ⟨by rfl, ?ya109⟩) hHeld ?ra109
                case ya109 => intro w hSw; clear hSw; go_simp; with_reducible rfl
                simp only [Act.put, List.setIfInBounds_toArray, List.set_cons_zero, List.set_cons_succ]
                refine wpAnyH_take (i := 14) (v := ?va110) (by simp; rfl) (by kernel_rfl) (by kernel_rfl) (by kernel_rfl) (fun _ _ _ h => h) (Or.inl ⟨by rfl, ?ya110⟩) hHeld ?ra110
                case ya110 => intro w hSw; clear hSw; go_simp; with_reducible rfl
                simp only [Act.put, List.setIfInBounds_toArray, List.set_cons_zero, List.set_cons_succ]
                refine wpAnyH_take (i := 15) (v := ?va111) (by simp; rfl) (by kernel_rfl) (by kernel_rfl) (by kernel_rfl) (fun _ _ _ h => h) (Or.inl ⟨by rfl, ?ya111⟩) hHeld ?ra111
                case ya111 => intro w hSw; have z := (HL.out w hSw).1; clear hSw; go_simp; with_reducible rfl
                simp only [Act.put, List.setIfInBounds_toArray, List.set_cons_zero, List.set_cons_succ]
                refine wpAnyH_take (i := 17) (v := ?va112) (by simp; rfl) (by kernel_rfl) (by kernel_rfl) (by kernel_rfl) (fun _ _ _ h => h) (Or.inl ⟨by rfl, ?ya112⟩) hHeld ?ra112
                case ya112 => intro w hSw; clear hSw; go_simp; with_reducible rfl
                simp only [Act.put, List.setIfInBounds_toArray, List.set_cons_zero, List.set_cons_succ]
                refine wpAnyH_ready (rs := [16]) (by kernel_rfl) (by simp) ?_
                refine AllReadyH.cons (by simp; rfl) (fun Kc hKc => ?_) AllReadyH.nil
                go_simp
                refine (HPL.out wd D.out).mono ?_
                rintro e w8 ⟨rfl, b8⟩
                have D8 : Hid (Below wr.heap.size wr w8) := below_then D.out b8
                clear b8
                refine hKc.out _ _ D8.out (fun hHeld => ?_)
                clear hKc Kc
                refine wpAnyH_take (i := 18) (v := ?va113) (by simp; rfl) (by kernel_rfl) (by kernel_rfl) (by kernel_rfl) (fun _ _ _ h => h) (Or.inl ⟨by rfl, ?ya113⟩) hHeld ?ra113
                case ya113 => intro w hSw; clear hSw; go_simp; with_reducible rfl
                simp only [Act.put, List.setIfInBounds_toArray, List.set_cons_zero, List.set_cons_succ]
                refine wpAnyH_take (i := 19) (v := ?va114) (by simp; rfl) (by kernel_rfl) (by kernel_rfl) (by kernel_rfl) (fun _ _ _ h => h) (Or.inl ⟨by rfl, ?ya114⟩) hHeld ?ra114
                case ya114 => intro w hSw; clear hSw; go_simp; with_reducible rfl
                simp only [Act.put, List.setIfInBounds_toArray, List.set_cons_zero, List.set_cons_succ]
                clear hHeld
                refine wpAnyH_done (by kernel_rfl) (NoPanic.normal ?_) _
                have hjs : IntKind.i64.wrap ((j : Int) + 1) = (j : Int) + 1 := by rw [IntKind.wrap_i64]; omega
                go_wp2_with fail
                go_roundw
                case rel => exact ⟨j + 1, by omega, by omega, by go_num, I7.out.later D8.out, S7.out.later D8.out⟩
                case measure => simp [intOf]; omega
              · have hks : IntKind.i64.wrap ((k : Int) + 1) = (k : Int) + 1 := by rw [IntKind.wrap_i64]; omega
                go_wp2_with fail
                go_roundw
                case rel => exact ⟨k + 1, x, l0, ys, by omega, by omega, rfl, rfl, rfl, by go_num, S7⟩
                case measure => simp [intOf]; omega
      · have hk4 : k = 200 := by omega
        have BW : Hid (Below w.heap.size w wr) := below_then BA.out S2.out.below
        have i1 : (k : Int) < (n : Int) := by omega
        have i2 : ¬ (k : Int) < 200 := by omega
        clear hk4
        go_wp2_with fail
        go_ret
        exact ⟨rfl, BW.out⟩
    · have BW : Hid (Below w.heap.size w wr) := below_then BA.out S2.out.below
      have i1 : ¬ (k : Int) < (n : Int) := by omega
      go_wp2_with fail
      go_ret
      exact ⟨rfl, BW.out⟩
end Go.Proofs.Ytmmmgknlbkckdaa
