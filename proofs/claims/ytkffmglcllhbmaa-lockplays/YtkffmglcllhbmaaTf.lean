/-
  Layer 11: the laws' own 'same'; Take, Drop, Copy.
-/
import Derived.Deep.RegionHeld3
import Derived.LaidMore
import Derived.Deep.QuietTactic
import Derived.BigQuiet
import Derived.Test.YtkffmglcllhbmaaTd
namespace Go.Proofs.Ytkffmglcllhbmaa
open Go.RowKit
theorem getD_take {xs : List Int} {k : Nat} (h : k < xs.length) : xs.take (k + 1) = xs.take k ++ [xs.getD k 0] := by
  rw [List.take_succ_eq_append_getElem h]
  simp [List.getD, List.getElem?_eq_getElem h]
set_option maxHeartbeats 1000000 in
set_option maxRecDepth 100000 in
theorem drop_nil (t : Int) (w : World) : Calls Try.prog 40 #[nilq, .int .u64 t] w fun e w' => e = .returned (.int .i64 1) ∧ w = w' := by
  go_enter Try.func40, Try.ntmps40
  go_wp2
  go_ret
  exact ⟨rfl, rfl⟩
set_option maxHeartbeats 1000000 in
set_option maxRecDepth 100000 in
theorem drop_out {w : World} {Q : Nat} {v : Value} {xs : List Int} {m : Int} (h : QAt 101 w Q v xs m) (t : Int) (ht : t ∉ xs) (hn : xs.length ≤ 100000) : Calls Try.prog 40 #[qp Q, .int .u64 t] w fun e w' => e = .returned (.int .i64 110) ∧ Below w.heap.size w w' := by
  have HP : Hid (place xs t = -1) := place_out ht
  have HS : Hid (Stands w (some ⟨Q, 0, none⟩) xs) := .inr ⟨Q, v, m, rfl, h⟩
  clear h ht
  go_enter Try.func40, Try.ntmps40
  go_wp2_with (go_at_call 55; refine (place_any _ t xs w HS.out hn).mono ?_; rw [HP.out]; rintro e w' ⟨rfl, hb⟩; have HB : Hid (Below w.heap.size w w') := hb; clear hb)
  go_ret
  exact ⟨rfl, HB.out⟩
set_option maxHeartbeats 1000000 in
set_option maxRecDepth 100000 in
theorem drop_in {w : World} {Q : Nat} {v : Value} {xs : List Int} {m : Int} (h : QAt 101 w Q v xs m) (t : Int) (ht : t ∈ xs) (hn : xs.length ≤ 100000) :
    Calls Try.prog 40 #[qp Q, .int .u64 t] w fun e w' => e = .returned (.int .i64 0) ∧ ∃ v', QAt 101 w' Q v' (xs.erase t) m ∧ blk v' = blk v ∧ Kept (fun b => b = Q ∨ blk v = some b) w w' := by
  have HP : Hid (place xs t = (xs.idxOf t : Int)) := place_in ht
  have hk := List.idxOf_lt_length_of_mem ht
  have H : Hid (QAt 101 w Q v xs m) := h
  have HE : Hid (xs.eraseIdx (xs.idxOf t) = xs.erase t) := erase_idx xs t
  clear h ht
  generalize xs.idxOf t = k at *
  have hk1 : ((k : Int) == -1) = false := by rw [beq_eq_false_iff_ne]; omega
  go_enter Try.func40, Try.ntmps40
  go_wp2_with (first | (go_at_call 55; refine (place_any _ t xs w (.inr ⟨Q, v, m, rfl, H.out⟩) hn).mono ?_; rw [HP.out]; rintro e w1 ⟨rfl, hb⟩; have HB : Hid (Below w.heap.size w w1) := hb; clear hb) | (go_at_call 56; refine (leave_at_k (H.out.later HB.out) k hk hn).mono ?_; rintro e w' ⟨rfl, v', h1, h2, h3⟩; have R1 : Hid (QAt 101 w' Q v' (xs.eraseIdx k) m ∧ blk v' = blk v ∧ Kept (fun b => b = Q ∨ blk v = some b) w1 w') := ⟨h1, h2, h3⟩; clear h1 h2 h3))
  go_ret
  exact ⟨rfl, v', by rw [← HE.out]; exact R1.out.1, R1.out.2.1, (Kept.of_below _ HB.out).trans R1.out.2.2 fun _ _ e => e⟩
set_option maxHeartbeats 1000000 in
set_option maxRecDepth 100000 in
theorem clone_none (w : World) : Calls Try.prog 59 #[.slice none 0 0] w fun e w' => e = .returned (.slice none 0 0) ∧ w = w' := by
  have hnn : ∀ w : World, (binOp BinOp.eql 22 (.slice none 0 0) (.slice none 0 0)).run Try.prog w = .ok (.bool true) w := fun w => by kernel_rfl
  go_enter Try.func59, Try.ntmps59
  go_wp2
  go_ret
  exact ⟨rfl, rfl⟩
theorem empty_row (w : World) : Row (w.alloc (.cells #[] 30)) (.slice (some ⟨w.heap.size, 0, none⟩) 0 0) [] := .inr ⟨w.heap.size, 0, 0, #[], rfl, heap_alloc_new w _, Nat.le_refl _, Nat.le_refl _, fun i hi => by simp at hi⟩
set_option maxHeartbeats 1000000 in
set_option maxRecDepth 100000 in
theorem clone_some (w : World) (a : Addr) (n c : Nat) (xs : List Int) (h : Row w (.slice (some a) n c) xs) (hn : xs.length ≤ 100000) :
    Calls Try.prog 59 #[.slice (some a) n c] w fun e w' => ∃ v', e = .returned v' ∧ Row w' v' xs ∧ Below w.heap.size w w' ∧ ∀ g, blk v' = some g → w.heap.size ≤ g := by
  obtain ⟨p, c', e, hI, _, _⟩ := h.form
  simp only [Value.slice.injEq] at e
  obtain ⟨rfl, rfl, rfl⟩ := e
  have HI : Hid (UIn w (some a) xs.length xs) := hI
  clear h hI
  have hnn : ∀ w : World, (binOp BinOp.eql 22 (.slice (some a) xs.length c) (.slice none 0 0)).run Try.prog w = .ok (.bool false) w := fun w => by kernel_rfl
  go_enter Try.func59, Try.ntmps59
  go_wp2_with (at_builtin; (refine wpList_append_row _ rfl (.tmp 5) (.tmp 6) rfl (.slice (some ⟨w.heap.size, 0, none⟩) 0 0) [] rfl (empty_row w) (some a) xs.length c xs rfl (HI.out.later (below_alloc w _)) (by simpa using hn) ?_; intro v2 w2 r2 k2 b2; have R2 : Hid (Row w2 v2 xs ∧ Kept (fun b => w.heap.size = b) (w.alloc (.cells #[] 30)) w2 ∧ (blk v2 = some w.heap.size ∨ ∃ g, blk v2 = some g ∧ (w.alloc (.cells #[] 30)).heap.size ≤ g)) := ⟨r2, k2.wider (fun x _ e => Option.some.inj e), b2⟩; clear r2 k2 b2))
  go_ret
  refine ⟨v2, rfl, R2.out.1, R2.out.2.1.into (below_alloc w _) (fun b hb e => by omega) (Nat.le_refl _), fun g hg => ?_⟩
  rcases R2.out.2.2 with e | ⟨g', e, hg'⟩
  · rw [e] at hg; cases hg; exact Nat.le_refl _
  · rw [e] at hg; cases hg; simp at hg'; omega
theorem clone_any (w : World) (v : Value) (xs : List Int) (h : Row w v xs) (hn : xs.length ≤ 100000) :
    Calls Try.prog 59 #[v] w fun e w' => ∃ v', e = .returned v' ∧ Row w' v' xs ∧ Below w.heap.size w w' ∧ ∀ g, blk v' = some g → w.heap.size ≤ g := by
  obtain ⟨p, c, rfl, hI, hc, h0⟩ := h.form
  cases p with
  | some a => exact clone_some w a _ c xs h hn
  | none =>
    obtain rfl := h0 rfl
    obtain rfl : xs = [] := List.eq_nil_of_length_eq_zero (by omega)
    refine (clone_none w).mono ?_
    rintro e w' ⟨rfl, rfl⟩
    exact ⟨_, rfl, Row.empty w, Below.refl _ _, fun g e => by cases e⟩
set_option maxHeartbeats 1000000 in
set_option maxRecDepth 100000 in
theorem copy_nil (w : World) : Calls Try.prog 46 #[nilq] w fun e w' => e = .returned nilq ∧ w = w' := by
  go_enter Try.func46, Try.ntmps46
  go_wp2
  go_ret
  exact ⟨rfl, rfl⟩
set_option maxHeartbeats 1000000 in
set_option maxRecDepth 100000 in
theorem copy_at {w : World} {Q : Nat} {v : Value} {xs : List Int} {m : Int} (h : QAt 101 w Q v xs m) (hn : xs.length ≤ 100000) :
    Calls Try.prog 46 #[qp Q] w fun e w' => ∃ Q' v', e = .returned (qp Q') ∧ QAt 101 w' Q' v' xs m ∧ w.heap.size ≤ Q' ∧ (∀ g, blk v' = some g → w.heap.size ≤ g) ∧ Below w.heap.size w w' := by
  have H : Hid (QAt 101 w Q v xs m) := h
  have HC : Hid (∀ w', Below w.heap.size w w' → w'.cell? ⟨Q, 0, none⟩ = some v ∧ w'.cell? ⟨Q, 1, none⟩ = some (.int .u64 m)) := fun w' hb => ⟨(h.later hb).c0, (h.later hb).c1⟩
  clear h
  go_enter Try.func46, Try.ntmps46
  go_wp2_with fail
  refine wp_region_noPanic ?_
  refine wp_region_held_drew (S := fun w' => Below w.heap.size w w') (by kernel_rfl) (below_drawn 1) (fun hHeld => ?_)
  have D : Hid (Below w.heap.size w w.drew) := hHeld
  generalize w.drew = wd at *
  refine wpAnyH_take (i := 0) (v := ?va1) (by simp; rfl) (by kernel_rfl) (by kernel_rfl) (by kernel_rfl) (fun _ _ _ h => h) (Or.inl ⟨by rfl, ?ya1⟩) hHeld ?ra1
  case ya1 => intro w hSw; clear hSw; go_simp; with_reducible rfl
  simp only [Act.put, List.setIfInBounds_toArray, List.set_cons_zero, List.set_cons_succ]
  refine wpAnyH_take (i := 1) (v := ?va2) (by simp; rfl) (by kernel_rfl) (by kernel_rfl) (by kernel_rfl) (fun _ _ _ h => h) (Or.inl ⟨by rfl, ?ya2⟩) hHeld ?ra2
  case ya2 => intro w hSw; clear hSw; go_simp; with_reducible rfl
  simp only [Act.put, List.setIfInBounds_toArray, List.set_cons_zero, List.set_cons_succ]
  refine wpAnyH_take (i := 2) (v := ?va3) (by simp; rfl) (by kernel_rfl) (by kernel_rfl) (by kernel_rfl) (fun _ _ _ h => h) (Or.inl ⟨by rfl, ?ya3⟩) hHeld ?ra3
  case ya3 => intro w hSw; clear hSw; go_simp; with_reducible rfl
  simp only [Act.put, List.setIfInBounds_toArray, List.set_cons_zero, List.set_cons_succ]
  refine wpAnyH_take (i := 3) (v := ?va4) (by simp; rfl) (by kernel_rfl) (by kernel_rfl) (by kernel_rfl) (fun _ _ _ h => h) (Or.inl ⟨by rfl, ?ya4⟩) hHeld ?ra4
  case ya4 => intro w hSw; have z := (HC.out w hSw).1; clear hSw; go_simp; with_reducible rfl
  simp only [Act.put, List.setIfInBounds_toArray, List.set_cons_zero, List.set_cons_succ]
  refine wpAnyH_take (i := 5) (v := ?va5) (by simp; rfl) (by kernel_rfl) (by kernel_rfl) (by kernel_rfl) (fun _ _ _ h => h) (Or.inl ⟨by rfl, ?ya5⟩) hHeld ?ra5
  case ya5 => intro w hSw; clear hSw; go_simp; with_reducible rfl
  simp only [Act.put, List.setIfInBounds_toArray, List.set_cons_zero, List.set_cons_succ]
  refine wpAnyH_take (i := 6) (v := ?va6) (by simp; rfl) (by kernel_rfl) (by kernel_rfl) (by kernel_rfl) (fun _ _ _ h => h) (Or.inl ⟨by rfl, ?ya6⟩) hHeld ?ra6
  case ya6 => intro w hSw; clear hSw; go_simp; with_reducible rfl
  simp only [Act.put, List.setIfInBounds_toArray, List.set_cons_zero, List.set_cons_succ]
  refine wpAnyH_take (i := 7) (v := ?va7) (by simp; rfl) (by kernel_rfl) (by kernel_rfl) (by kernel_rfl) (fun _ _ _ h => h) (Or.inl ⟨by rfl, ?ya7⟩) hHeld ?ra7
  case ya7 => intro w hSw; clear hSw; go_simp; with_reducible rfl
  simp only [Act.put, List.setIfInBounds_toArray, List.set_cons_zero, List.set_cons_succ]
  refine wpAnyH_take (i := 8) (v := ?va8) (by simp; rfl) (by kernel_rfl) (by kernel_rfl) (by kernel_rfl) (fun _ _ _ h => h) (Or.inl ⟨by rfl, ?ya8⟩) hHeld ?ra8
  case ya8 => intro w hSw; have z := (HC.out w hSw).2; clear hSw; go_simp; with_reducible rfl
  simp only [Act.put, List.setIfInBounds_toArray, List.set_cons_zero, List.set_cons_succ]
  refine wpAnyH_ready (rs := [4]) (by kernel_rfl) (by simp) ?_
  refine AllReadyH.cons (by simp; rfl) (fun Kc hKc => ?_) AllReadyH.nil
  go_simp
  refine (clone_any wd v xs (H.out.row.later D.out) hn).mono ?_
  rintro e w1 ⟨v1, rfl, r1, b1, g1⟩
  have R1 : Hid (Row w1 v1 xs ∧ Below wd.heap.size wd w1 ∧ ∀ g, blk v1 = some g → wd.heap.size ≤ g) := ⟨r1, b1, g1⟩
  obtain ⟨p1, n1, c1, hv1⟩ := r1.shape
  clear r1 b1 g1
  subst hv1
  refine hKc.out _ _ (below_then D.out R1.out.2.1) (fun hHeld => ?_)
  clear hKc Kc
  refine wpAnyH_take (i := 9) (v := ?va9) (by simp; rfl) (by kernel_rfl) (by kernel_rfl) (by kernel_rfl) (fun _ _ _ h => h) (Or.inl ⟨by rfl, ?ya9⟩) hHeld ?ra9
  case ya9 => intro w hSw; clear hSw; go_simp; with_reducible rfl
  simp only [Act.put, List.setIfInBounds_toArray, List.set_cons_zero, List.set_cons_succ]
  refine wpAnyH_ready (rs := [10]) (by kernel_rfl) (by simp) ?_
  refine AllReadyH.cons (by simp; rfl) (fun Kc hKc => ?_) AllReadyH.nil
  go_simp
  have hs1 := R1.out.2.1.size
  have hs2 := D.out.size
  have R2 : Hid (QAt 101 (w1.alloc (.cells #[.slice p1 n1 c1, .int .u64 m] 101)) w1.heap.size (.slice p1 n1 c1) xs m ∧ w.heap.size ≤ w1.heap.size ∧ (∀ g, blk (.slice p1 n1 c1) = some g → w.heap.size ≤ g) ∧ Below w.heap.size w (w1.alloc (.cells #[.slice p1 n1 c1, .int .u64 m] 101))) := ⟨QAt.new w1 101 R1.out.1, by omega, fun g hg => by have := R1.out.2.2 g hg; omega, below_then (below_then D.out R1.out.2.1) (below_alloc w1 _)⟩
  refine hKc.out _ _ R2.out.2.2.2 (fun hHeld => ?_)
  clear hKc Kc R1 D hs1 hs2
  generalize w1.alloc (.cells #[.slice p1 n1 c1, .int .u64 m] 101) = w2 at *
  refine wpAnyH_take (i := 11) (v := ?va10) (by simp; rfl) (by kernel_rfl) (by kernel_rfl) (by kernel_rfl) (fun _ _ _ h => h) (Or.inl ⟨by rfl, ?ya10⟩) hHeld ?ra10
  case ya10 => intro w hSw; clear hSw; go_simp; with_reducible rfl
  simp only [Act.put, List.setIfInBounds_toArray, List.set_cons_zero, List.set_cons_succ]
  refine wpAnyH_done (by kernel_rfl) (NoPanic.normal ?_) _
  go_wp2
  go_ret
  exact ⟨_, _, rfl, R2.out⟩
end Go.Proofs.Ytkffmglcllhbmaa
