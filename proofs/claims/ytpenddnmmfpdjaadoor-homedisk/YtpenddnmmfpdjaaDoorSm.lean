/-
  Lists of values that are read; the document's Same.
-/
import Derived.Test.YtpenddnmmfpdjaaDoorTa
namespace Go.Proofs.YtpenddnmmfpdjaaDoor
open Go.RowKit

/-- a list of values that is read -/
structure VIn (w : World) (p : Option Addr) (n : Nat) (vs : List (List Int)) : Prop where
  len : vs.length = n
  each : ∀ l ∈ vs, l.length = 32
  cells : 0 < n → ∃ b o, p = some ⟨b, o, none⟩ ∧ b < w.heap.size ∧ ∀ i (h : i < vs.length), w.rangeAt b (o + i * 32) (U8 vs[i])
theorem VIn.later {w w' : World} {p : Option Addr} {n : Nat} {vs : List (List Int)} (h : VIn w p n vs) (hb : Below w.heap.size w w') : VIn w' p n vs :=
  ⟨h.len, h.each, fun h0 => by
    obtain ⟨b, o, e, hlt, hc⟩ := h.cells h0
    exact ⟨b, o, e, Nat.lt_of_lt_of_le hlt hb.size, fun i hi => rangeAt_same (hc i hi) (hb.block b hlt)⟩⟩
theorem VIn.of_own {w : World} {base n c : Nat} {p : Option Addr} {vs : List (List Int)} (h : w.ownsRow base 23 32 (.slice p n c) n (VC vs)) (he : ∀ l ∈ vs, l.length = 32) (hn : vs.length = n) : VIn w p n vs := by
  refine ⟨hn, he, fun h0 => ?_⟩
  obtain ⟨p', c', e, hnil, hsome⟩ := own_slice h
  simp only [Value.slice.injEq, true_and] at e
  obtain ⟨rfl, rfl⟩ := e
  cases hp : p with
  | none => have := (hnil hp).1; omega
  | some a =>
    obtain ⟨g, rfl⟩ := hsome a hp
    subst hp
    refine ⟨g, 0, rfl, (own_blk h).1.lt, fun i hi => own_range_part h (fun j v hv => ?_)⟩
    have hj : j < 32 := by
      have := (List.getElem?_eq_some_iff.1 hv).1
      rw [U8_length, he _ (List.getElem_mem hi)] at this
      exact this
    rw [Nat.zero_add, VC_at he i j hi hj]
    exact hv
theorem VIn.nil {w : World} {p : Option Addr} : VIn w p 0 [] := ⟨rfl, (fun l hl => by cases hl), (fun h => by omega)⟩
theorem VIn.of_LAt {w : World} {g n : Nat} {vs : List (List Int)} (h : LAt 23 w g (VC vs)) (he : ∀ l ∈ vs, l.length = 32) (hn : vs.length = n) : VIn w (some ⟨g, 0, none⟩) n vs :=
  ⟨hn, he, fun _ => ⟨g, 0, rfl, h.lt, fun i hi => fun j v hv => by
    have hj : j < 32 := by
      have := (List.getElem?_eq_some_iff.1 hv).1
      rw [U8_length, he _ (List.getElem_mem hi)] at this
      exact this
    rw [h.cell, Nat.zero_add, VC_at he i j hi hj]
    exact hv⟩⟩
/-- the first k are the same -/
def sameK (vs us : List (List Int)) (k : Nat) : Prop := vs.take k = us.take k
theorem sameK_step {vs us : List (List Int)} {k : Nat} (h : sameK vs us k) (h1 : k < vs.length) (h2 : k < us.length) (e : vs[k] = us[k]) : sameK vs us (k + 1) := by
  unfold sameK at h ⊢
  rw [List.take_succ_eq_append_getElem h1, List.take_succ_eq_append_getElem h2, h, e]
theorem sameK_not {vs us : List (List Int)} {k : Nat} (h1 : k < vs.length) (h2 : k < us.length) (e : ¬ vs[k] = us[k]) : ¬ vs = us := fun h => e (by subst h; rfl)
theorem sameK_all {vs us : List (List Int)} {k : Nat} (h : sameK vs us k) (h1 : vs.length ≤ k) (h2 : us.length ≤ k) : vs = us := by
  unfold sameK at h
  rwa [List.take_of_length_le h1, List.take_of_length_le h2] at h

set_option maxHeartbeats 2000000 in
set_option maxRecDepth 100000 in
theorem same_vals (p q : Option Addr) (n m c d : Nat) (vs us : List (List Int)) (w : World) (h : VIn w p n vs) (k : VIn w q m us) (hbig : n ≤ 140737488355328) :
    Calls Tryd.prog 17 #[.slice p n c, .slice q m d] w fun e w' => e = .returned (.bool (decide (vs = us))) ∧ Below w.heap.size w w' := by
  by_cases hnm : n = m
  · subst hnm
    have HP : Hid (VIn w p n vs) := h
    have HQ : Hid (VIn w q n us) := k
    have e1 : (((n : Nat) : Int) != (n : Int)) = false := by simp
    clear h k
    go_enter Tryd.func17, Tryd.ntmps17
    go_wp2_with fail
    clear e1
    go_loopw [5] (fun i wr => ∃ j : Nat, j ≤ n ∧ i = .int .i64 j ∧ Hid (sameK vs us j ∧ Below w.heap.size w wr)) (fun i _ => n - (intOf i).toNat)
    case atStart => exact ⟨0, Nat.zero_le _, rfl, rfl, Below.refl _ _⟩
    case round =>
      obtain ⟨j, hj, rfl, HI⟩ := hrel
      by_cases hlt : j < n
      · have h0 : 0 < n := by omega
        have hjv : j < vs.length := by rw [HP.out.len]; exact hlt
        have hju : j < us.length := by rw [HQ.out.len]; exact hlt
        obtain ⟨b1, o1, rfl, hb1, hc1⟩ := HP.out.cells h0
        obtain ⟨b2, o2, rfl, hb2, hc2⟩ := HQ.out.cells h0
        have R1 : Hid (w.rangeAt b1 (o1 + j * 32) (U8 vs[j])) := hc1 j hjv
        have R2 : Hid (w.rangeAt b2 (o2 + j * 32) (U8 us[j])) := hc2 j hju
        have M1 : Hid (b1 < w.heap.size) := hb1
        have M2 : Hid (b2 < w.heap.size) := hb2
        have L1 : Hid (vs[j].length = 32) := HP.out.each _ (List.getElem_mem hjv)
        have L2 : Hid (us[j].length = 32) := HQ.out.each _ (List.getElem_mem hju)
        have HE : Hid ((vs[j] = us[j] → sameK vs us (j + 1)) ∧ (¬ vs[j] = us[j] → ¬ vs = us)) := ⟨fun e => sameK_step HI.out.1 hjv hju e, fun e => sameK_not hjv hju e⟩
        have Br : Hid (Below w.heap.size w wr) := HI.out.2
        generalize vs[j] = x at *
        generalize us[j] = y at *
        have QE : Hid (∀ w, (binOp .neq 23 (.agg (U8 x).toArray) (.agg (U8 y).toArray)).run Tryd.prog w = .ok (.bool (!decide (x = y))) w) := fun w => neqV w _ _ L1.out L2.out
        clear hc1 hc2 hb1 hb2 hjv hju HI
        go_wp2_with fail
        refine wp_region_noPanic ?_
        refine wp_region_held_drew (S := fun w' => Below wr.heap.size wr w') (by kernel_rfl) (below_drawn 1) (fun hHeld => ?_)
        refine wpAnyH_take (i := 0) (v := ?va1) (by simp; rfl) (by kernel_rfl) (by kernel_rfl) (by kernel_rfl) (fun _ _ _ h => h) (Or.inl ⟨by rfl, ?ya1⟩) hHeld ?ra1
        case ya1 => intro w hSw; clear hSw; go_simp; with_reducible rfl
        simp only [Act.put, List.setIfInBounds_toArray, List.set_cons_zero, List.set_cons_succ]
        refine wpAnyH_take (i := 1) (v := ?va2) (by simp; rfl) (by kernel_rfl) (by kernel_rfl) (by kernel_rfl) (fun _ _ _ h => h) (Or.inl ⟨by rfl, ?ya2⟩) hHeld ?ra2
        case ya2 => intro w hSw; clear hSw; go_simp; with_reducible rfl
        simp only [Act.put, List.setIfInBounds_toArray, List.set_cons_zero, List.set_cons_succ]
        refine wpAnyH_take (i := 2) (v := ?va3) (by simp; rfl) (by kernel_rfl) (by kernel_rfl) (by kernel_rfl) (fun _ _ _ h => h) (Or.inl ⟨by rfl, ?ya3⟩) hHeld ?ra3
        case ya3 => intro w hSw; clear hSw; go_simp; with_reducible rfl
        simp only [Act.put, List.setIfInBounds_toArray, List.set_cons_zero, List.set_cons_succ]
        refine wpAnyH_take (i := 3) (v := _) (by simp; rfl) (by kernel_rfl) (by kernel_rfl) (by kernel_rfl) (fun _ _ _ h => h) (yieldsIf_load_mid (by rfl) 23 (.tmp 19) rfl b1 (o1 + j * 32) rfl (U8 x) _ (fun _ h => rangeAt_same R1.out ((Br.out.trans (h.mono Br.out.size)).block b1 M1.out)) Tryd.underlying23 rfl (by rw [sizeV, U8_length, L1.out])) hHeld ?_
        simp only [Act.put, List.setIfInBounds_toArray, List.set_cons_zero, List.set_cons_succ]
        refine wpAnyH_take (i := 4) (v := ?va4) (by simp; rfl) (by kernel_rfl) (by kernel_rfl) (by kernel_rfl) (fun _ _ _ h => h) (Or.inl ⟨by rfl, ?ya4⟩) hHeld ?ra4
        case ya4 => intro w hSw; clear hSw; go_simp; with_reducible rfl
        simp only [Act.put, List.setIfInBounds_toArray, List.set_cons_zero, List.set_cons_succ]
        refine wpAnyH_take (i := 5) (v := ?va5) (by simp; rfl) (by kernel_rfl) (by kernel_rfl) (by kernel_rfl) (fun _ _ _ h => h) (Or.inl ⟨by rfl, ?ya5⟩) hHeld ?ra5
        case ya5 => intro w hSw; clear hSw; go_simp; with_reducible rfl
        simp only [Act.put, List.setIfInBounds_toArray, List.set_cons_zero, List.set_cons_succ]
        refine wpAnyH_take (i := 6) (v := ?va6) (by simp; rfl) (by kernel_rfl) (by kernel_rfl) (by kernel_rfl) (fun _ _ _ h => h) (Or.inl ⟨by rfl, ?ya6⟩) hHeld ?ra6
        case ya6 => intro w hSw; clear hSw; go_simp; with_reducible rfl
        simp only [Act.put, List.setIfInBounds_toArray, List.set_cons_zero, List.set_cons_succ]
        refine wpAnyH_take (i := 7) (v := _) (by simp; rfl) (by kernel_rfl) (by kernel_rfl) (by kernel_rfl) (fun _ _ _ h => h) (yieldsIf_load_mid (by rfl) 23 (.tmp 23) rfl b2 (o2 + j * 32) rfl (U8 y) _ (fun _ h => rangeAt_same R2.out ((Br.out.trans (h.mono Br.out.size)).block b2 M2.out)) Tryd.underlying23 rfl (by rw [sizeV, U8_length, L2.out])) hHeld ?_
        simp only [Act.put, List.setIfInBounds_toArray, List.set_cons_zero, List.set_cons_succ]
        refine wpAnyH_take (i := 8) (v := _) (by simp; rfl) (by kernel_rfl) (by kernel_rfl) (by kernel_rfl) (fun _ _ _ h => h) (yields_neq_is (by rfl) 23 rfl rfl rfl eqgV QE.out) hHeld ?_
        simp only [Act.put, List.setIfInBounds_toArray, List.set_cons_zero, List.set_cons_succ]
        have B3 : Hid (Below w.heap.size w wr.drew) := below_then Br.out hHeld
        clear hHeld Br QE R1 R2 L1 L2
        refine wpAnyH_done (by kernel_rfl) (NoPanic.normal ?_) _
        by_cases hxy : x = y
        · rw [decide_eq_true hxy]
          have HS : Hid (sameK vs us (j + 1)) := HE.out.1 hxy
          clear HE hxy
          go_wp2_with fail
          go_roundw
          case rel => exact ⟨j + 1, by omega, by go_num, HS.out, B3.out⟩
          case measure => simp [intOf]; omega
        · rw [decide_eq_false hxy]
          have HS : Hid (¬ vs = us) := HE.out.2 hxy
          clear HE hxy
          go_wp2_with fail
          go_ret
          exact ⟨by rw [decide_eq_false HS.out]; rfl, B3.out⟩
      · have HS : Hid (vs = us) := sameK_all HI.out.1 (by rw [HP.out.len]; omega) (by rw [HQ.out.len]; omega)
        have Br : Hid (Below w.heap.size w wr) := HI.out.2
        clear HI
        go_wp2_with fail
        go_ret
        exact ⟨by rw [decide_eq_true HS.out]; rfl, Br.out⟩
  · have HS : Hid (¬ vs = us) := fun e => hnm (by rw [← h.len, ← k.len, e])
    have e1 : (((n : Nat) : Int) != (m : Int)) = true := by simp; omega
    clear h k hnm
    go_enter Tryd.func17, Tryd.ntmps17
    go_wp2_with fail
    go_ret
    exact ⟨by rw [decide_eq_false HS.out]; rfl, Below.refl _ _⟩
end Go.Proofs.YtpenddnmmfpdjaaDoor
