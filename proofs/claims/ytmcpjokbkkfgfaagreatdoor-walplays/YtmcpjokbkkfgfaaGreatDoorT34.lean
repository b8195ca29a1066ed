/-
  Layer 9: plays: none, the disks, what is no kind.
-/
import Derived.Test.YtmcpjokbkkfgfaaGreatDoorT30
import Derived.Test.YtmcpjokbkkfgfaaGreatDoorT32
import Derived.Test.YtmcpjokbkkfgfaaGreatDoorT33
namespace Go.Proofs.YtmcpjokbkkfgfaaGreatDoor
open Go.RowKit

set_option maxHeartbeats 1000000 in
set_option maxRecDepth 100000 in
theorem plays_none {w : World} {B P k : Nat} (h : Sq w B P 2 k) (hk : k ≤ 100) (wh b : Int) (v : List Int) (hv : v.length = 32) (_hvb : Bytes v) (pos : Int) (keep data : Value) :
    Calls Tryz.prog 9 #[.pointer (some ⟨P, 0, none⟩), .agg (ocells 9 wh b v pos keep data).toArray] w fun r w' => r = .returned (.bool true) ∧ Sq w' B P 2 (k + 1) ∧ Below B w w' := by
  have hB := h.B
  have t2 := tmod2 wh
  have e2 := sl2_is wh
  have l2 := sl2_lt wh
  obtain ⟨w0, hw0⟩ : ∃ x, x = w.alloc (.cells (ocells 9 wh b v pos keep data).toArray 53) := ⟨_, rfl⟩
  have ew := hw0.symm
  have b0 : Below w.heap.size w w0 := by rw [hw0]; exact below_alloc w _
  have O0 : OAt w0 w.heap.size 9 wh b v pos keep data := by rw [hw0]; exact LAt.new 53 w _
  have HQ0 : Hid (Sq w0 B P 2 k) := h.later b0
  have HB0 : Hid (Below w.heap.size w w0) := b0
  have LO : Hid (_) := OAt.loadO O0 hv
  have ckd := OAt.kind O0
  have cwh := OAt.which O0
  clear hw0 b0 O0
  go_enter Tryz.func9, Tryz.ntmps9
  go_wp2_with ((with_reducible refine at_ops ?_); (refine wpList_load_is (by rfl) 53 rfl rfl LO.out ?_); simp only [Act.put, List.setIfInBounds_toArray, List.set_cons_zero, List.set_cons_succ])
  rw [e2]
  clear LO ew ckd cwh t2 e2
  generalize sl2 wh = i at *
  refine (Sq.none HQ0.out l2 9 wh b v hv pos keep data).mono ?_
  rintro r1 w1 ⟨rfl, b1⟩
  have HQ1 : Hid (Sq w1 B P 2 (k + 1)) := (HQ0.out.later b1).more (Nat.le_succ _)
  have HB1 : Hid (Below B w w1) := (below_then HB0.out b1).mono hB
  clear b1 HQ0 HB0
  go_wp2_with fail
  refine (HQ1.out.tells l2 (by omega)).mono ?_
  rintro r9 w9 ⟨rfl, b9⟩
  have HQ9 : Hid (Sq w9 B P 2 (k + 1)) := HQ1.out.later b9
  have HB9 : Hid (Below B w w9) := HB1.out.trans (b9.mono HQ1.out.B)
  clear b9 HQ1 HB1
  go_wp2_with fail
  go_ret
  exact ⟨rfl, HQ9.out, HB9.out⟩
set_option maxHeartbeats 1000000 in
set_option maxRecDepth 100000 in
theorem plays_crash {w : World} {B P k : Nat} (h : Sq w B P 2 k) (hk : k ≤ 100) (wh b : Int) (v : List Int) (hv : v.length = 32) (_hvb : Bytes v) (pos : Int) (pk : Option Addr) (lk ck : Nat) (ys : List Int) (hj : JIn w pk lk ys) (hkB : ∀ a, pk = some a → 0 < lk → a.block < B) (hkb : lk ≤ 140737488355328) (data : Value) :
    Calls Tryz.prog 9 #[.pointer (some ⟨P, 0, none⟩), .agg (ocells 10 wh b v pos (.slice pk lk ck) data).toArray] w fun r w' => r = .returned (.bool true) ∧ Sq w' B P 2 (k + 1) ∧ Below B w w' := by
  have hB := h.B
  have t2 := tmod2 wh
  have e2 := sl2_is wh
  have l2 := sl2_lt wh
  obtain ⟨w0, hw0⟩ : ∃ x, x = w.alloc (.cells (ocells 10 wh b v pos (.slice pk lk ck) data).toArray 53) := ⟨_, rfl⟩
  have ew := hw0.symm
  have b0 : Below w.heap.size w w0 := by rw [hw0]; exact below_alloc w _
  have O0 : OAt w0 w.heap.size 10 wh b v pos (.slice pk lk ck) data := by rw [hw0]; exact LAt.new 53 w _
  have HQ0 : Hid (Sq w0 B P 2 k) := h.later b0
  have HB0 : Hid (Below w.heap.size w w0) := b0
  have LO : Hid (_) := OAt.loadO O0 hv
  have ckd := OAt.kind O0
  have cwh := OAt.which O0
  have HJ : Hid (JIn w0 pk lk ys) := hj.later b0
  clear hw0 b0 O0
  go_enter Tryz.func9, Tryz.ntmps9
  go_wp2_with ((with_reducible refine at_ops ?_); (refine wpList_load_is (by rfl) 53 rfl rfl LO.out ?_); simp only [Act.put, List.setIfInBounds_toArray, List.set_cons_zero, List.set_cons_succ])
  rw [e2]
  clear LO ew ckd cwh t2 e2
  generalize sl2 wh = i at *
  refine (disk_crash HQ0.out l2 (by omega) wh b v hv pos pk lk ck ys HJ.out hkB hkb data).mono ?_
  rintro r1 w1 ⟨rfl, q1, b1⟩
  have HQ1 : Hid (Sq w1 B P 2 (k + 1)) := q1
  have HB1 : Hid (Below B w w1) := below_of HB0.out hB b1
  clear q1 b1 HQ0 HB0
  go_wp2_with fail
  refine (HQ1.out.tells l2 (by omega)).mono ?_
  rintro r9 w9 ⟨rfl, b9⟩
  have HQ9 : Hid (Sq w9 B P 2 (k + 1)) := HQ1.out.later b9
  have HB9 : Hid (Below B w w9) := HB1.out.trans (b9.mono HQ1.out.B)
  clear b9 HQ1 HB1
  go_wp2_with fail
  go_ret
  exact ⟨rfl, HQ9.out, HB9.out⟩
set_option maxHeartbeats 1000000 in
set_option maxRecDepth 100000 in
theorem plays_write {w : World} {B P k : Nat} (h : Sq w B P 2 k) (hk : k ≤ 100) (wh b : Int) (v : List Int) (hv : v.length = 32) (_hvb : Bytes v) (pos : Int) (pd : Option Addr) (ld cd : Nat) (xs : List Int) (hx : BIn w pd ld xs) (hdn : pd = none → ld = 0 ∧ cd = 0) (hdb : ld + 64 ≤ 140737488355328) (keep : Value) :
    Calls Tryz.prog 9 #[.pointer (some ⟨P, 0, none⟩), .agg (ocells 11 wh b v pos keep (.slice pd ld cd)).toArray] w fun r w' => r = .returned (.bool true) ∧ Sq w' B P 2 (k + 1) ∧ Below B w w' := by
  have hB := h.B
  have t2 := tmod2 wh
  have e2 := sl2_is wh
  have l2 := sl2_lt wh
  obtain ⟨w0, hw0⟩ : ∃ x, x = w.alloc (.cells (ocells 11 wh b v pos keep (.slice pd ld cd)).toArray 53) := ⟨_, rfl⟩
  have ew := hw0.symm
  have b0 : Below w.heap.size w w0 := by rw [hw0]; exact below_alloc w _
  have O0 : OAt w0 w.heap.size 11 wh b v pos keep (.slice pd ld cd) := by rw [hw0]; exact LAt.new 53 w _
  have HQ0 : Hid (Sq w0 B P 2 k) := h.later b0
  have HB0 : Hid (Below w.heap.size w w0) := b0
  have LO : Hid (_) := OAt.loadO O0 hv
  have ckd := OAt.kind O0
  have cwh := OAt.which O0
  have HX : Hid (BIn w0 pd ld xs) := hx.later b0
  clear hw0 b0 O0
  go_enter Tryz.func9, Tryz.ntmps9
  go_wp2_with ((with_reducible refine at_ops ?_); (refine wpList_load_is (by rfl) 53 rfl rfl LO.out ?_); simp only [Act.put, List.setIfInBounds_toArray, List.set_cons_zero, List.set_cons_succ])
  rw [e2]
  clear LO ew ckd cwh t2 e2
  generalize sl2 wh = i at *
  refine (disk_write HQ0.out l2 (by omega) wh b v hv pos pd ld cd xs HX.out hdn hdb keep).mono ?_
  rintro r1 w1 ⟨rfl, q1, b1⟩
  have HQ1 : Hid (Sq w1 B P 2 (k + 1)) := q1
  have HB1 : Hid (Below B w w1) := below_of HB0.out hB b1
  clear q1 b1 HQ0 HB0
  go_wp2_with fail
  refine (HQ1.out.tells l2 (by omega)).mono ?_
  rintro r9 w9 ⟨rfl, b9⟩
  have HQ9 : Hid (Sq w9 B P 2 (k + 1)) := HQ1.out.later b9
  have HB9 : Hid (Below B w w9) := HB1.out.trans (b9.mono HQ1.out.B)
  clear b9 HQ1 HB1
  go_wp2_with fail
  go_ret
  exact ⟨rfl, HQ9.out, HB9.out⟩
set_option maxHeartbeats 1000000 in
set_option maxRecDepth 100000 in
theorem plays_other {w : World} {B P k : Nat} (h : Sq w B P 2 k) (hk : k ≤ 100) (wh b : Int) (v : List Int) (_hv : v.length = 32) (_hvb : Bytes v) (pos : Int) (keep data : Value) (kd : Int) (hkd : kd < 1 ∨ 11 < kd) :
    Calls Tryz.prog 9 #[.pointer (some ⟨P, 0, none⟩), .agg (ocells kd wh b v pos keep data).toArray] w fun r w' => r = .returned (.bool true) ∧ Sq w' B P 2 (k + 1) ∧ Below B w w' := by
  have hB := h.B
  have t2 := tmod2 wh
  have e2 := sl2_is wh
  have l2 := sl2_lt wh
  obtain ⟨w0, hw0⟩ : ∃ x, x = w.alloc (.cells (ocells kd wh b v pos keep data).toArray 53) := ⟨_, rfl⟩
  have ew := hw0.symm
  have b0 : Below w.heap.size w w0 := by rw [hw0]; exact below_alloc w _
  have O0 : OAt w0 w.heap.size kd wh b v pos keep data := by rw [hw0]; exact LAt.new 53 w _
  have HQ0 : Hid (Sq w0 B P 2 k) := h.later b0
  have HB0 : Hid (Below w.heap.size w w0) := b0
  have ckd := OAt.kind O0
  have cwh := OAt.which O0
  have k1 : (kd == 1) = false := by rw [beq_eq_false_iff_ne]; omega
  have k2 : (kd == 2) = false := by rw [beq_eq_false_iff_ne]; omega
  have k3 : (kd == 3) = false := by rw [beq_eq_false_iff_ne]; omega
  have k4 : (kd == 4) = false := by rw [beq_eq_false_iff_ne]; omega
  have k5 : (kd == 5) = false := by rw [beq_eq_false_iff_ne]; omega
  have k6 : (kd == 6) = false := by rw [beq_eq_false_iff_ne]; omega
  have k7 : (kd == 7) = false := by rw [beq_eq_false_iff_ne]; omega
  have k8 : (kd == 8) = false := by rw [beq_eq_false_iff_ne]; omega
  have k9 : (kd == 9) = false := by rw [beq_eq_false_iff_ne]; omega
  have k10 : (kd == 10) = false := by rw [beq_eq_false_iff_ne]; omega
  have k11 : (kd == 11) = false := by rw [beq_eq_false_iff_ne]; omega
  have HQ1 : Hid (Sq w0 B P 2 (k + 1)) := HQ0.out.more (Nat.le_succ _)
  have HB1 : Hid (Below B w w0) := HB0.out.mono hB
  clear hw0 b0 O0 hkd HQ0 HB0
  go_enter Tryz.func9, Tryz.ntmps9
  go_wp2_with fail
  rw [e2]
  clear ew ckd cwh t2 e2 k1 k2 k3 k4 k5 k6 k7 k8 k9 k10 k11
  generalize sl2 wh = i at *
  refine (HQ1.out.tells l2 (by omega)).mono ?_
  rintro r9 w9 ⟨rfl, b9⟩
  have HQ9 : Hid (Sq w9 B P 2 (k + 1)) := HQ1.out.later b9
  have HB9 : Hid (Below B w w9) := HB1.out.trans (b9.mono HQ1.out.B)
  clear b9 HQ1 HB1
  go_wp2_with fail
  go_ret
  exact ⟨rfl, HQ9.out, HB9.out⟩
end Go.Proofs.YtmcpjokbkkfgfaaGreatDoor
