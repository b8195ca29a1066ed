/-
  Layer 13: the document's line: May, New, Copy, Freed.
-/
import Derived.Test.YtnbegddpgmejnaaGreatRb
namespace Go.Proofs.YtnbegddpgmejnaaGreat
open Go.RowKit


set_option maxHeartbeats 2000000 in
set_option maxRecDepth 100000 in
theorem may_at (w : World) (bl lc mr hi cl : Int) : Calls Tryz.prog 23 #[cfgV bl lc mr hi cl] w fun e w' => e = .returned (.bool (decide (mayC bl lc mr hi cl))) ∧ Below w.heap.size w w' := by
  by_cases h0 : 1 ≤ bl
  rotate_left
  · have hd : decide (mayC bl lc mr hi cl) = false := decide_eq_false fun h => h0 (by unfold mayC at h; omega)
    rw [hd]
    clear hd
    go_enter Tryz.func23, Tryz.ntmps23
    go_wp2
    go_ret
    exact ⟨rfl, below_alloc w _⟩
  by_cases h1 : bl ≤ 64
  rotate_left
  · have hd : decide (mayC bl lc mr hi cl) = false := decide_eq_false fun h => h1 (by unfold mayC at h; omega)
    rw [hd]
    clear hd
    go_enter Tryz.func23, Tryz.ntmps23
    go_wp2
    go_ret
    exact ⟨rfl, below_alloc w _⟩
  by_cases h2 : 2 ≤ lc
  rotate_left
  · have hd : decide (mayC bl lc mr hi cl) = false := decide_eq_false fun h => h2 (by unfold mayC at h; omega)
    rw [hd]
    clear hd
    go_enter Tryz.func23, Tryz.ntmps23
    go_wp2
    go_ret
    exact ⟨rfl, below_alloc w _⟩
  by_cases h3 : lc ≤ 64
  rotate_left
  · have hd : decide (mayC bl lc mr hi cl) = false := decide_eq_false fun h => h3 (by unfold mayC at h; omega)
    rw [hd]
    clear hd
    go_enter Tryz.func23, Tryz.ntmps23
    go_wp2
    go_ret
    exact ⟨rfl, below_alloc w _⟩
  by_cases h4 : 1 ≤ mr
  rotate_left
  · have hd : decide (mayC bl lc mr hi cl) = false := decide_eq_false fun h => h4 (by unfold mayC at h; omega)
    rw [hd]
    clear hd
    go_enter Tryz.func23, Tryz.ntmps23
    go_wp2
    go_ret
    exact ⟨rfl, below_alloc w _⟩
  by_cases h5 : mr ≤ 16
  rotate_left
  · have hd : decide (mayC bl lc mr hi cl) = false := decide_eq_false fun h => h5 (by unfold mayC at h; omega)
    rw [hd]
    clear hd
    go_enter Tryz.func23, Tryz.ntmps23
    go_wp2
    go_ret
    exact ⟨rfl, below_alloc w _⟩
  by_cases h6 : mr ≤ bl
  rotate_left
  · have hd : decide (mayC bl lc mr hi cl) = false := decide_eq_false fun h => h6 (by unfold mayC at h; omega)
    rw [hd]
    clear hd
    go_enter Tryz.func23, Tryz.ntmps23
    go_wp2
    go_ret
    exact ⟨rfl, below_alloc w _⟩
  by_cases h7 : mr ≤ lc - 1
  rotate_left
  · have hd : decide (mayC bl lc mr hi cl) = false := decide_eq_false fun h => h7 (by unfold mayC at h; omega)
    rw [hd]
    clear hd
    go_enter Tryz.func23, Tryz.ntmps23
    go_wp2
    go_ret
    exact ⟨rfl, below_alloc w _⟩
  by_cases h8 : 1 ≤ hi
  rotate_left
  · have hd : decide (mayC bl lc mr hi cl) = false := decide_eq_false fun h => h8 (by unfold mayC at h; omega)
    rw [hd]
    clear hd
    go_enter Tryz.func23, Tryz.ntmps23
    go_wp2
    go_ret
    exact ⟨rfl, below_alloc w _⟩
  by_cases h9 : hi ≤ lc
  rotate_left
  · have hd : decide (mayC bl lc mr hi cl) = false := decide_eq_false fun h => h9 (by unfold mayC at h; omega)
    rw [hd]
    clear hd
    go_enter Tryz.func23, Tryz.ntmps23
    go_wp2
    go_ret
    exact ⟨rfl, below_alloc w _⟩
  by_cases h10 : 1 ≤ cl
  rotate_left
  · have hd : decide (mayC bl lc mr hi cl) = false := decide_eq_false fun h => h10 (by unfold mayC at h; omega)
    rw [hd]
    clear hd
    go_enter Tryz.func23, Tryz.ntmps23
    go_wp2
    go_ret
    exact ⟨rfl, below_alloc w _⟩
  by_cases h11 : cl ≤ 8
  rotate_left
  · have hd : decide (mayC bl lc mr hi cl) = false := decide_eq_false fun h => h11 (by unfold mayC at h; omega)
    rw [hd]
    clear hd
    go_enter Tryz.func23, Tryz.ntmps23
    go_wp2
    go_ret
    exact ⟨rfl, below_alloc w _⟩
  have hd : decide (mayC bl lc mr hi cl) = true := decide_eq_true ⟨h0, h1, h2, h3, h4, h5, h6, h7, h8, h9, h10, h11⟩
  rw [hd]
  clear hd
  go_enter Tryz.func23, Tryz.ntmps23
  go_wp2
  go_ret
  exact ⟨rfl, below_alloc w _⟩
set_option maxHeartbeats 2000000 in
set_option maxRecDepth 100000 in
theorem rnew_bad (w : World) {bl lc mr hi cl : Int} (h : ¬ mayC bl lc mr hi cl) : Calls Tryz.prog 6 #[cfgV bl lc mr hi cl] w fun e w' => e = .returned (.tuple #[nilq, .int .i64 3]) ∧ Below w.heap.size w w' := by
  have hm := fun w1 => may_at w1 bl lc mr hi cl
  rw [decide_eq_false h] at hm
  have HM : Hid (∀ w1, Calls Tryz.prog 23 #[cfgV bl lc mr hi cl] w1 fun e w' => e = .returned (.bool false) ∧ Below w1.heap.size w1 w') := hm
  clear hm h
  go_enter Tryz.func6, Tryz.ntmps6
  go_wp2_with fail
  refine (HM.out _).mono ?_
  rintro e w2 ⟨rfl, hb⟩
  have HB : Hid (Below w.heap.size w w2) := below_then (below_alloc w _) hb
  clear hb
  go_wp2
  go_ret2
  exact ⟨rfl, HB.out⟩
set_option maxHeartbeats 2000000 in
set_option maxRecDepth 100000 in
theorem rnew_ok (w : World) {bl lc mr hi cl : Int} (h : mayC bl lc mr hi cl) : Calls Tryz.prog 6 #[cfgV bl lc mr hi cl] w fun e w' => ∃ R, e = .returned (.tuple #[qp R, .int .i64 0]) ∧ RL w' (fun _ => False) R nils nils (newA bl lc mr hi cl) [] [] ∧ w.heap.size ≤ R ∧ Below w.heap.size w w' := by
  have hm := fun w1 => may_at w1 bl lc mr hi cl
  rw [decide_eq_true h] at hm
  have HM : Hid (∀ w1, Calls Tryz.prog 23 #[cfgV bl lc mr hi cl] w1 fun e w' => e = .returned (.bool true) ∧ Below w1.heap.size w1 w') := hm
  clear hm h
  go_enter Tryz.func6, Tryz.ntmps6
  go_wp2_with fail
  refine (HM.out _).mono ?_
  rintro e w2 ⟨rfl, hb⟩
  have HB : Hid (Below w.heap.size w w2) := below_then (below_alloc w _) hb
  have hx : w2.heap[w.heap.size]? = some (.cells #[.int .i64 bl, .int .i64 lc, .int .i64 mr, .int .i64 hi, .int .i64 cl] 23 (0, 0)) := (hb.block _ (by simp)).trans (heap_alloc_new w _)
  have x0 : w2.cell? ⟨w.heap.size, 0, none⟩ = some (.int .i64 bl) := cell_of_row _ _ 0 _ 23 (0, 0) hx
  have x1 : w2.cell? ⟨w.heap.size, 1, none⟩ = some (.int .i64 lc) := cell_of_row _ _ 1 _ 23 (0, 0) hx
  have x2 : w2.cell? ⟨w.heap.size, 2, none⟩ = some (.int .i64 mr) := cell_of_row _ _ 2 _ 23 (0, 0) hx
  have x3 : w2.cell? ⟨w.heap.size, 3, none⟩ = some (.int .i64 hi) := cell_of_row _ _ 3 _ 23 (0, 0) hx
  have x4 : w2.cell? ⟨w.heap.size, 4, none⟩ = some (.int .i64 cl) := cell_of_row _ _ 4 _ 23 (0, 0) hx
  clear hb hx
  go_wp2
  go_ret2
  refine ⟨w2.heap.size, rfl, ⟨heap_alloc_new w2 _, ⟨World.ownsRow_nil _ _ _ _, trivial, fun g hg => by cases hg⟩, ⟨World.ownsRow_nil _ _ _ _, trivial, fun g hg => by cases hg⟩⟩, HB.out.size, below_then HB.out (below_alloc w2 _)⟩
section
variable {w w' : World} {G : Nat → Prop} {R : Nat} {vW vI : Value} {a : Ad} {ws is : List Who}
set_option maxHeartbeats 2000000 in
set_option maxRecDepth 100000 in
theorem rcopy_at (h : RL w G R vW vI a ws is) : Calls Tryz.prog 8 #[qp R] w fun e w' => e = .returned (qp w.heap.size) ∧ RL w' G w.heap.size vW vI a ws is ∧ Below w.heap.size w w' := by
  have H : Hid (RL w G R vW vI a ws is) := h
  have x0 : w.cell? ⟨R, 0, none⟩ = some (.int .i64 a.bl) := h.c 0
  have x1 : w.cell? ⟨R, 1, none⟩ = some (.int .i64 a.lc) := h.c 1
  have x2 : w.cell? ⟨R, 2, none⟩ = some (.int .i64 a.mr) := h.c 2
  have x3 : w.cell? ⟨R, 3, none⟩ = some (.int .i64 a.hi) := h.c 3
  have x4 : w.cell? ⟨R, 4, none⟩ = some (.int .i64 a.cl) := h.c 4
  have x5 : w.cell? ⟨R, 5, none⟩ = some (.int .u64 a.next) := h.c 5
  have x6 : w.cell? ⟨R, 6, none⟩ = some vW := h.c 6
  have x7 : w.cell? ⟨R, 7, none⟩ = some vI := h.c 7
  have x8 : w.cell? ⟨R, 8, none⟩ = some (.int .i64 a.used) := h.c 8
  obtain ⟨pw, cw, rfl, _⟩ := own_form h.wr
  obtain ⟨pi, ci, rfl, _⟩ := own_form h.ir
  clear h
  go_enter Tryz.func8, Tryz.ntmps8
  go_wp2
  go_ret
  refine ⟨rfl, ⟨?_, (H.out.later (below_alloc w _)).W, (H.out.later (below_alloc w _)).I⟩, below_alloc w _⟩
  exact heap_alloc_new w _
set_option maxHeartbeats 2000000 in
set_option maxRecDepth 100000 in
theorem rfreed_at (h : RL w G R vW vI a ws is) (hR : ¬ G R) (ok : a.Ok) (n : Int) : Calls Tryz.prog 35 #[qp R, .int .i64 n] w fun e w' => e = .returned (.int .i64 (a.freE n)) ∧ RAf w w' G R (a.freS n) := by
  have H : Hid (RL w G R vW vI a ws is) := h
  have x8 : w.cell? ⟨R, 8, none⟩ = some (.int .i64 a.used) := h.c 8
  have f8 := h.free 8
  obtain ⟨n1, n2, n3, n4, n5, n6⟩ := ok.nums
  have HR : Hid (¬ G R) := hR
  clear h ok hR
  by_cases h0 : n < 0
  · have e1 : Hid (a.freE n = 2 ∧ a.freS n = a) := ⟨if_neg (by omega), if_neg (by omega)⟩
    go_enter Tryz.func35, Tryz.ntmps35
    go_wp2
    go_ret
    rw [e1.out.1, e1.out.2]
    exact ⟨rfl, RAf.same H.out (Below.refl _ _)⟩
  · by_cases h1 : a.used < n
    · have e1 : Hid (a.freE n = 2 ∧ a.freS n = a) := ⟨if_neg (by omega), if_neg (by omega)⟩
      go_enter Tryz.func35, Tryz.ntmps35
      go_wp2
      go_ret
      rw [e1.out.1, e1.out.2]
      exact ⟨rfl, RAf.same H.out (Below.refl _ _)⟩
    · have e1 : Hid (a.freE n = 0 ∧ a.freS n = { a with used := a.used - n }) := ⟨if_pos (by omega), if_pos (by omega)⟩
      go_enter Tryz.func35, Tryz.ntmps35
      go_wp2
      go_ret
      rw [e1.out.1, e1.out.2]
      have hk := Kept.setCell (w := w) R 8 (.int .i64 (a.used - n))
      refine ⟨rfl, ⟨vW, vI, ws, is, ?_, H.out.W.turn HR.out hk, H.out.I.turn HR.out hk⟩, hk⟩
      rw [L.st_set 8 _ H.out.st]
      rfl
end
end Go.Proofs.YtnbegddpgmejnaaGreat
