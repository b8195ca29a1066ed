/-
  Layer 11: the document's queue.
-/
import Derived.Test.YtmmmgknlbkckdaaTf
import Derived.Deep.RegionHeld3
import Derived.LaidMore
import Derived.BigQuiet
namespace Go.Proofs.Ytmmmgknlbkckdaa
open Go.RowKit


set_option maxHeartbeats 1000000 in
set_option maxRecDepth 100000 in
theorem rput_low {w : World} {Q : Nat} {v : Value} {xs : List Int} {m : Int} (h : QAt 44 w Q v xs m) (t : Int) (ht : t ≤ m) : Calls Try.prog 20 #[qp Q, .int .u64 t] w fun e w' => e = .returned (.int .i64 110) ∧ w = w' := by
  have c1 := h.c1
  have hd := decide_eq_true ht
  clear h
  go_enter Try.func20, Try.ntmps20
  go_wp2
  go_ret
  exact ⟨rfl, rfl⟩
set_option maxHeartbeats 1000000 in
set_option maxRecDepth 100000 in
theorem rput_high {w : World} {Q : Nat} {v : Value} {xs : List Int} {m : Int} (h : QAt 44 w Q v xs m) (t : Int) (ht : ¬ t ≤ m) (hn : xs.length < 100000) :
    Calls Try.prog 20 #[qp Q, .int .u64 t] w fun e w' => e = .returned (.int .i64 0) ∧ ∃ v', QAt 44 w' Q v' (xs ++ [t]) t ∧ Kept (fun b => b = Q ∨ blk v = some b) w w' ∧ (blk v' = blk v ∨ ∃ g, blk v' = some g ∧ w.heap.size ≤ g) := by
  have H : Hid (QAt 44 w Q v xs m) := h
  obtain ⟨w1, hw1⟩ : ∃ x, x = w.setCell ⟨Q, 1, none⟩ (.int .u64 t) := ⟨_, rfl⟩
  have H1 : Hid (QAt 44 w1 Q v xs t) := by rw [hw1]; exact h.set1 (by decide) t
  have K1 : Hid (Kept (· = Q) w w1) := by rw [hw1]; exact Kept.setCell Q 1 _
  have HZ1 : Hid (w1.heap.size = w.heap.size) := by show _ = _; rw [hw1]; simp
  have ew := hw1.symm
  have c1 := h.c1
  have f1 := h.free 1
  have c10 := H1.out.c0
  have hd := decide_eq_false ht
  clear h hw1
  go_enter Try.func20, Try.ntmps20
  go_wp2_with (at_builtin; (refine wpList_append_row _ rfl (.tmp 19) (.tmp 21) rfl v xs rfl (H1.out.row.later (below_alloc w1 _)) (some ⟨w1.heap.size, 0, none⟩) 1 1 [t] rfl (one_in w1 t) (by omega) ?_; intro v2 w2 r2 k2 b2; obtain ⟨p2, n2, cc2, hv2⟩ := r2.shape; have R2 : Hid (Row w2 v2 (xs ++ [t])) := r2; have K2 : Hid (Kept (fun b => blk v = some b) (w1.alloc (.cells #[.int .u64 t] 26)) w2) := k2; have B2 : Hid (blk v2 = blk v ∨ ∃ g, blk v2 = some g ∧ (w1.alloc (.cells #[.int .u64 t] 26)).heap.size ≤ g) := b2; have HQ : Hid (w2.heap[Q]? = some (.cells #[v, .int .u64 t] 44 (0, 0))) := (k2.block Q (by have := H1.out.lt; simp; omega) (fun e => H1.out.ne (by decide) e rfl)).trans (((below_alloc w1 (.cells #[.int .u64 t] 26)).block Q H1.out.lt).trans H1.out.st); have f2 : w2.frozen? ⟨Q, 0, none⟩ = false := (by simp [World.frozen?, HQ.out]); have c2 : w2.cell? ⟨Q, 0, none⟩ = some v := (by rw [cell_of_row _ Q 0 _ 44 (0, 0) HQ.out]; rfl); clear r2 k2 b2; subst hv2))
  go_ret
  have hne : ∀ g, blk (.slice p2 n2 cc2) = some g → g ≠ Q := fun g hg => by
    have hl := H1.out.lt
    rcases B2.out with e | ⟨g', e, hg'⟩
    · rw [e] at hg; exact H1.out.ne (by decide) hg
    · rw [e] at hg; simp at hg hg'; omega
  refine ⟨rfl, _, QAt.set0 HQ.out R2.out hne, ?_, ?_⟩
  · exact (((K1.out.wider (fun x _ e => .inl e)).trans (Kept.of_below (fun b => b = Q ∨ blk v = some b) (below_alloc w1 (.cells #[.int .u64 t] 26))) (fun _ _ e => e)).trans K2.out (fun x _ e => .inr e)).trans (Kept.setCell Q 0 _) (fun x _ e => .inl e)
  · rcases B2.out with e | ⟨g', e, hg'⟩
    · exact .inl e
    · exact .inr ⟨g', e, by have := HZ1.out; simp at hg'; omega⟩
set_option maxHeartbeats 1000000 in
set_option maxRecDepth 100000 in
theorem rfirst_none {w : World} {Q : Nat} {v : Value} {m : Int} (h : QAt 44 w Q v [] m) : Calls Try.prog 21 #[qp Q] w fun e w' => e = .returned (.tuple #[.int .u64 0, .bool false]) ∧ w = w' := by
  obtain ⟨p, c, rfl, hI, _⟩ := h.row.form
  have c0 := h.c0
  clear h
  go_enter Try.func21, Try.ntmps21
  go_wp2
  go_ret2
  exact ⟨rfl, rfl⟩
set_option maxHeartbeats 1000000 in
set_option maxRecDepth 100000 in
theorem rfirst_some {w : World} {Q : Nat} {v : Value} {x : Int} {xs : List Int} {m : Int} (h : QAt 44 w Q v (x :: xs) m) : Calls Try.prog 21 #[qp Q] w fun e w' => e = .returned (.tuple #[.int .u64 x, .bool true]) ∧ w = w' := by
  obtain ⟨p, c, rfl, hI, _⟩ := h.row.form
  obtain ⟨b, o, rfl, hc⟩ := hI.cells (by simp)
  have cx : w.cell? ⟨b, o, none⟩ = some (.int .u64 x) := by have := hc 0 (by simp); simpa using this
  have c0 := h.c0
  have hz : (((x :: xs).length : Int) == 0) = false := by rw [beq_eq_false_iff_ne]; simp; omega
  have hp : 0 < (x :: xs).length := by simp
  clear h hc hI
  generalize (x :: xs).length = n at *
  go_enter Try.func21, Try.ntmps21
  go_wp2
  go_ret2
  exact ⟨rfl, rfl⟩
theorem mem_take_succ {xs : List Int} {t : Int} {k : Nat} (hk : k < xs.length) (h : t ∉ xs.take k) (hne : ¬ xs.getD k 0 = t) : t ∉ xs.take (k + 1) := by
  rw [getD_take hk]
  simp
  exact ⟨h, fun e => hne (by simpa using e.symm)⟩
theorem idx_take {xs : List Int} {t : Int} {k : Nat} (hk : k < xs.length) (h : t ∉ xs.take k) (he : xs.getD k 0 = t) : place xs t = k := by
  have := idxOf_pre (xs.take k) t xs h (by rw [← he, ← getD_take hk]; exact List.take_prefix _ _)
  rw [place_in this.1, this.2]
  simp
  omega
set_option maxHeartbeats 1000000 in
set_option maxRecDepth 100000 in
theorem rplace_any {w : World} {Q : Nat} {v : Value} {xs : List Int} {m : Int} (h : QAt 44 w Q v xs m) (t : Int) (hn : xs.length ≤ 100000) : Calls Try.prog 22 #[qp Q, .int .u64 t] w fun e w' => e = .returned (.int .i64 (place xs t)) ∧ w = w' := by
  obtain ⟨p, c, rfl, hI, _⟩ := h.row.form
  have HI : Hid (UIn w p xs.length xs) := hI
  have c0 := h.c0
  clear h hI
  go_enter Try.func22, Try.ntmps22
  go_wp2
  go_loopw [5] (fun i wr => ∃ k : Nat, k ≤ xs.length ∧ i = .int .i64 k ∧ Hid (t ∉ xs.take k) ∧ wr = w) (fun i _ => xs.length - (intOf i).toNat)
  case atStart => exact ⟨0, Nat.zero_le _, rfl, (fun h => by simp at h), rfl⟩
  case round =>
    obtain ⟨k, hk, rfl, HT, hwr⟩ := hrel
    subst hwr
    by_cases hlt : k < xs.length
    · obtain ⟨b, o, rfl, hc⟩ := HI.out.cells (by omega)
      have h1 := hc k hlt
      have i1 : (k : Int) < (xs.length : Int) := by omega
      have HT2 : Hid (¬ xs.getD k 0 = t → t ∉ xs.take (k + 1)) := mem_take_succ hlt HT.out
      have HT3 : Hid (xs.getD k 0 = t → place xs t = k) := idx_take hlt HT.out
      generalize xs.getD k 0 = x at *
      clear hc
      cases hz : (x == t)
      · go_wp2
        go_roundw
        case rel => exact ⟨k + 1, by omega, by go_num, HT2.out (by simpa using hz), by trivial⟩
        case measure => simp [intOf]; omega
      · go_wp2
        go_ret
        exact ⟨by rw [HT3.out (by simpa using hz)]; rfl, rfl⟩
    · have HE : Hid (place xs t = -1) := place_out (by have := HT.out; rwa [List.take_of_length_le (by omega)] at this)
      go_wp2
      go_ret
      exact ⟨by rw [HE.out]; rfl, rfl⟩
end Go.Proofs.Ytmmmgknlbkckdaa
