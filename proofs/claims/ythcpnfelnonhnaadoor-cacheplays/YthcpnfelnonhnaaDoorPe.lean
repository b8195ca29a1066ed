/-
  Layer 17: what a Put asks of its images.
-/
import Derived.Test.YthcpnfelnonhnaaDoorPd
import Derived.Test.YthcpnfelnonhnaaDoorZa
namespace Go.Proofs.YthcpnfelnonhnaaDoor
open Go.RowKit

section
variable {w w' : World} {Q : Nat} {n nx : Int} {ve : Value} {L : List En}
/-- images that were handed in, not where the cache lies -/
theorem MIn.far {S : Nat → Prop} {p : Option Addr} {m : Nat} {l : List Im} (h : MIn w p m l) (hk : Kept S w w') (hs : ∀ a, p = some a → 0 < m → ¬ S a.block) : MIn w' p m l := by
  refine ⟨h.len, h.wf, fun h0 => ?_⟩
  obtain ⟨b, o, e, hr⟩ := h.cells h0
  exact ⟨b, o, e, range_block hr (hk.block b (range_lt hr (by rw [IC_len h.wf, h.len]; omega)) (hs _ e h0))⟩
set_option maxHeartbeats 2000000 in
set_option maxRecDepth 100000 in
theorem lacks_at (h : CAt w Q n ve L nx) (i : Im) (hi : i.Wf) (_hn : i64 n) : Calls Tryd.prog 30 #[.pointer (some ⟨Q, 0, none⟩), .agg (icells i).toArray] w fun e w' => e = .returned (.bool (outI n i)) ∧ Below w.heap.size w w' := by
  obtain ⟨w1, hw1⟩ : ∃ w1, w1 = w.alloc (.cells (icells i).toArray 55) := ⟨_, rfl⟩
  have B1 : Below w.heap.size w w1 := by rw [hw1]; exact below_alloc w _
  have HB1 : Hid (Below w.heap.size w w1) := B1
  have k0 : w1.cell? ⟨w.heap.size, 0, none⟩ = some (.int .i64 i.b) := by rw [hw1]; exact LAt.cell (LAt.new 55 w (icells i)) 0
  have c0 : w1.cell? ⟨Q, 0, none⟩ = some (.int .i64 n) := (h.later B1).c0
  have k0d : w1.drew.cell? ⟨w.heap.size, 0, none⟩ = some (.int .i64 i.b) := k0
  have c0d : w1.drew.cell? ⟨Q, 0, none⟩ = some (.int .i64 n) := c0
  have hw1' := hw1.symm
  have HO : Hid (∀ r : Bool, (i.b < 0 → r = true) → (¬ i.b < 0 → r = decide (n ≤ i.b)) → outI n i = r) := fun r h1 h2 => by
    unfold outI
    by_cases c : i.b < 0
    · rw [h1 c]; simp [c]
    · rw [h2 c]; simp [c]
  have hb := hi.b
  obtain ⟨ib, iv⟩ := i
  clear h hi hw1 B1
  go_enter Tryd.func30, Tryd.ntmps30
  by_cases hc : ib < 0
  · have hd : decide (ib < 0) = true := decide_eq_true hc
    have HR : Hid (outI n ⟨ib, iv⟩ = true) := HO.out true (fun _ => rfl) (fun h => absurd hc h)
    go_wp2_with ((with_reducible refine at_ops ?_); (refine wpList_box_is (by rfl) 55 rfl _ rfl hw1' ?_); simp only [Act.put, List.setIfInBounds_toArray, List.set_cons_zero, List.set_cons_succ])
    go_quiet (fail)
    go_wp2
    go_ret
    exact ⟨by rw [HR.out]; rfl, below_then HB1.out (below_drawn _)⟩
  · have hd : decide (ib < 0) = false := decide_eq_false hc
    have HR : Hid (outI n ⟨ib, iv⟩ = decide (n ≤ ib)) := HO.out _ (fun h => absurd h hc) (fun _ => rfl)
    go_wp2_with ((with_reducible refine at_ops ?_); (refine wpList_box_is (by rfl) 55 rfl _ rfl hw1' ?_); simp only [Act.put, List.setIfInBounds_toArray, List.set_cons_zero, List.set_cons_succ])
    go_quiet (fail)
    go_wp2
    go_ret
    exact ⟨by rw [HR.out]; rfl, below_then HB1.out (below_drawn _)⟩
abbrev lackV (Q : Nat) : Value := .func (.func 30) #[.pointer (some ⟨Q, 0, none⟩)] #[]
set_option maxHeartbeats 2000000 in
set_option maxRecDepth 100000 in
theorem index_at (h : CAt w Q n ve L nx) (hn : i64 n) {p : Option Addr} {m c : Nat} {l : List Im} (hM : MIn w p m l) (hm : m ≤ 140737488355328) : Calls Tryd.prog 37 #[.slice p m c, lackV Q] w fun e w' => ∃ r : Int, e = .returned (.int .i64 r) ∧ decide (0 ≤ r) = l.any (outI n) ∧ Below w.heap.size w w' := by
  have HA : Hid (CAt w Q n ve L nx) := h
  have HM : Hid (MIn w p m l) := hM
  have HL : Hid (l.length = m) := hM.len
  clear h hM
  go_enter Tryd.func37, Tryd.ntmps37
  go_wp2_with fail
  go_loopw [8] (fun v W => ∃ k : Nat, v = .int .i64 (k : Int) ∧ k ≤ m ∧ Hid (Below w.heap.size w W) ∧ Hid (∀ j x, j < k → l[j]? = some x → outI n x = false)) (fun v _ => m - (intOf v).toNat)
  case atStart => exact ⟨0, rfl, by omega, Below.refl _ _, (fun j x hj => absurd hj (Nat.not_lt_zero _) : ∀ j x, j < 0 → l[j]? = some x → outI n x = false)⟩
  case round =>
    obtain ⟨k, rfl, hk, HB, HI⟩ := hrel
    by_cases hlt : k < m
    · obtain ⟨x, hx⟩ : ∃ x, l[k]? = some x := ⟨_, List.getElem?_eq_getElem (by rw [HL.out]; omega)⟩
      obtain ⟨b1, o1, rfl, -⟩ := HM.out.cells (by omega)
      have HLd : Hid ((Instr.loadAt 55 (.pointer (some ⟨b1, o1 + k * 33, none⟩))).run Tryd.prog wr = .ok (.agg (icells x).toArray) wr) := (HM.out.later HB.out).load hx
      have HX : Hid (l[k]? = some x) := hx
      have i1 : (k : Int) < (m : Int) := by omega
      clear hx
      go_wp2_with (first | ((with_reducible refine at_ops ?_); (refine wpList_load_is (by rfl) 55 rfl rfl HLd.out ?_); simp only [Act.put, List.setIfInBounds_toArray, List.set_cons_zero, List.set_cons_succ]))
      refine (lacks_at (HA.out.later HB.out) x (HM.out.wf x (List.mem_of_getElem? HX.out)) hn).mono ?_
      rintro e w2 ⟨rfl, bn⟩
      have HB2 : Hid (Below w.heap.size w w2) := below_then HB.out bn
      cases hz : outI n x with
      | true =>
        have HZ : Hid (outI n x = true) := hz
        clear hz HLd
        go_wp2_with fail
        go_ret
        refine ⟨_, rfl, ?_, HB2.out⟩
        rw [decide_eq_true (by omega), eq_comm, List.any_eq_true]
        exact ⟨x, List.mem_of_getElem? HX.out, HZ.out⟩
      | false =>
        have HI2 : Hid (∀ j y, j < k + 1 → l[j]? = some y → outI n y = false) := fun j y hj hy => by
          by_cases e : j = k
          · subst e; have := HX.out; rw [hy] at this; cases this; exact hz
          · exact HI.out j y (by omega) hy
        clear hz HLd
        go_wp2_with fail
        go_roundw
        case rel => exact ⟨k + 1, by congr 1, by omega, HB2, HI2⟩
        case measure => simp [intOf]; omega
    · go_wp2_with fail
      go_ret
      refine ⟨_, rfl, ?_, HB.out⟩
      rw [decide_eq_false (by omega), eq_comm, List.any_eq_false]
      intro x hx
      obtain ⟨j, hj, e⟩ := List.getElem_of_mem hx
      have := HI.out j x (by rw [HL.out] at hj; omega) (by rw [List.getElem?_eq_getElem hj, e])
      rw [this]; decide
set_option maxHeartbeats 2000000 in
set_option maxRecDepth 100000 in
theorem contains_at (h : CAt w Q n ve L nx) (hn : i64 n) {p : Option Addr} {m c : Nat} {l : List Im} (hM : MIn w p m l) (hm : m ≤ 140737488355328) : Calls Tryd.prog 29 #[.slice p m c, lackV Q] w fun e w' => e = .returned (.bool (l.any (outI n))) ∧ Below w.heap.size w w' := by
  have HC : Hid (Calls Tryd.prog 37 #[.slice p m c, lackV Q] w fun e w' => ∃ r : Int, e = .returned (.int .i64 r) ∧ decide (0 ≤ r) = l.any (outI n) ∧ Below w.heap.size w w') := index_at h hn hM hm
  clear h hM
  generalize l.any (outI n) = q at *
  go_enter Tryd.func29, Tryd.ntmps29
  go_wp2_with fail
  refine HC.out.mono ?_
  rintro e w1 ⟨r, rfl, hr, hb⟩
  have HR : Hid (decide (0 ≤ r) = q) := hr
  have HB : Hid (Below w.heap.size w w1) := hb
  clear hr hb
  go_wp2
  go_ret
  exact ⟨by rw [← HR.out]; rfl, HB.out⟩
theorem upI_no {l : List Im} {k : Nat} {x y : Im} (hx : l[k]? = some x) (hy : l[k + 1]? = some y) (h : y.b ≤ x.b) : upI l = false := by
  have hk := (List.getElem?_eq_some_iff.1 hy).1
  refine decide_eq_false fun h2 => ?_
  have := h2 k (by omega)
  simp [List.getD, hx, hy] at this
  omega
theorem upI_yes {l : List Im} (h : ∀ k x y, l[k]? = some x → l[k + 1]? = some y → x.b < y.b) : upI l = true := by
  refine decide_eq_true fun k hk => ?_
  have e1 := List.getElem?_eq_getElem (show k < l.length by omega)
  have e2 := List.getElem?_eq_getElem (show k + 1 < l.length by omega)
  have := h k _ _ e1 e2
  simpa [List.getD, e1, e2] using this
set_option maxHeartbeats 2000000 in
set_option maxRecDepth 100000 in
theorem rise_at {p : Option Addr} {m c : Nat} {l : List Im} (hM : MIn w p m l) (hm : m ≤ 140737488355328) : Calls Tryd.prog 31 #[.slice p m c] w fun e w' => e = .returned (.bool (upI l)) ∧ Below w.heap.size w w' := by
  have HM : Hid (MIn w p m l) := hM
  have HL : Hid (l.length = m) := hM.len
  clear hM
  go_enter Tryd.func31, Tryd.ntmps31
  go_wp2_with fail
  go_loopw [3] (fun v W => ∃ k : Nat, v = .int .i64 ((k : Int) + 1) ∧ k ≤ m ∧ Hid (Below w.heap.size w W) ∧ Hid (∀ j x y, j < k → l[j]? = some x → l[j + 1]? = some y → x.b < y.b)) (fun v _ => m + 2 - (intOf v).toNat)
  case atStart => exact ⟨0, rfl, by omega, Below.refl _ _, (fun j x y hj => absurd hj (Nat.not_lt_zero _) : ∀ j x y, j < 0 → l[j]? = some x → l[j + 1]? = some y → x.b < y.b)⟩
  case round =>
    obtain ⟨k, rfl, hk, HB, HI⟩ := hrel
    by_cases hlt : (k : Int) + 1 < (m : Int)
    · obtain ⟨x, hx⟩ : ∃ x, l[k]? = some x := ⟨_, List.getElem?_eq_getElem (by rw [HL.out]; omega)⟩
      obtain ⟨y, hy⟩ : ∃ y, l[k + 1]? = some y := ⟨_, List.getElem?_eq_getElem (by rw [HL.out]; omega)⟩
      obtain ⟨b1, o1, rfl, -⟩ := HM.out.cells (by omega)
      have x0 := (HM.out.later HB.out).c0 hx
      have y0 := (HM.out.later HB.out).c0 hy
      have x0d : wr.drew.cell? ⟨b1, o1 + k * 33, none⟩ = some (.int .i64 x.b) := x0
      have y0d : wr.drew.cell? ⟨b1, o1 + (k + 1) * 33, none⟩ = some (.int .i64 y.b) := y0
      have i0 : (0 : Int) ≤ (k : Int) + 1 := by omega
      have i1 : (k : Int) < (m : Int) := by omega
      have htn : ((k : Int) + 1).toNat = k + 1 := by omega
      have HX : Hid (l[k]? = some x ∧ l[k + 1]? = some y) := ⟨hx, hy⟩
      clear hx hy
      by_cases hle : y.b ≤ x.b
      · have hd : decide (y.b ≤ x.b) = true := decide_eq_true hle
        have HU : Hid (upI l = false) := upI_no HX.out.1 HX.out.2 hle
        clear hle
        go_wp2_with fail
        go_quiet (fail)
        go_wp2
        go_ret
        exact ⟨by rw [HU.out]; rfl, below_then HB.out (below_drawn _)⟩
      · have hd : decide (y.b ≤ x.b) = false := decide_eq_false hle
        have HI2 : Hid (∀ j x y, j < k + 1 → l[j]? = some x → l[j + 1]? = some y → x.b < y.b) := fun j x' y' hj hx' hy' => by
          by_cases e : j = k
          · subst e
            have a := HX.out.1; have b := HX.out.2
            rw [hx'] at a; rw [hy'] at b
            cases a; cases b
            omega
          · exact HI.out j x' y' (by omega) hx' hy'
        clear hle
        go_wp2_with fail
        go_quiet (fail)
        have HB2 : Hid (Below w.heap.size w (wr.drewN 1)) := below_then HB.out (below_drawn _)
        go_wp2
        go_roundw
        case rel => exact ⟨k + 1, by congr 1, by omega, below_then HB.out (below_drawn _), HI2⟩
        case measure => simp [intOf]; omega
    · have HU : Hid (upI l = true) := upI_yes fun j x y hx hy => HI.out j x y (by have := (List.getElem?_eq_some_iff.1 hy).1; rw [HL.out] at this; omega) hx hy
      go_wp2_with fail
      go_ret
      exact ⟨by rw [HU.out]; rfl, HB.out⟩
end
end Go.Proofs.YthcpnfelnonhnaaDoor
