/-
  Layer 4: plays: Flush, and what is no kind.
-/
import Derived.Test.YtlidjenkicgldaaUc
import Derived.BigQuiet
namespace Go.Proofs.Ytlidjenkicgldaa
open Go.RowKit

set_option maxRecDepth 100000 in
set_option maxHeartbeats 8000000 in
theorem plays_none {w : World} {B P n K : Nat} (h : St w B P n K) (hK : K ≤ 100) (W N : Int) (pd pk : Option Addr) (ld cd lk ck : Nat) (kd : Int) (hkd : kd < 1 ∨ 8 < kd) :
    Calls Try.prog 26 #[.pointer (some ⟨P, 0, none⟩), .agg #[.int .i64 kd, .int .i64 W, .int .i64 N, .slice pd ld cd, .slice pk lk ck]] w fun e0 w' => e0 = .returned (.bool true) ∧ St w' B P n (K + 1) ∧ Below B w w' := by
  have k1 : (kd == 1) = false := by rw [beq_eq_false_iff_ne]; omega
  have k2 : (kd == 2) = false := by rw [beq_eq_false_iff_ne]; omega
  have k3 : (kd == 3) = false := by rw [beq_eq_false_iff_ne]; omega
  have k4 : (kd == 4) = false := by rw [beq_eq_false_iff_ne]; omega
  have k5 : (kd == 5) = false := by rw [beq_eq_false_iff_ne]; omega
  have k6 : (kd == 6) = false := by rw [beq_eq_false_iff_ne]; omega
  have k7 : (kd == 7) = false := by rw [beq_eq_false_iff_ne]; omega
  have k8 : (kd == 8) = false := by rw [beq_eq_false_iff_ne]; omega
  obtain ⟨R, x, y, e, u, m, hp, hu, hm, hB⟩ := h
  have t2 := tmod2 W
  have e2 := sl2_is W
  have l2 := sl2_lt W
  go_enter Try.func26, Try.ntmps26
  go_wp2
  rw [e2]
  have HH0 : Hid (Pr w R B P x y n e u e u m) := hp
  have HBx : Hid (Below w.heap.size w (w.alloc (.cells #[.int .i64 kd, .int .i64 W, .int .i64 N, .slice pd ld cd, .slice pk lk ck] 61)) ∧ (w.alloc (.cells #[.int .i64 kd, .int .i64 W, .int .i64 N, .slice pd ld cd, .slice pk lk ck] 61)).heap[w.heap.size]? = some (.cells #[.int .i64 kd, .int .i64 W, .int .i64 N, .slice pd ld cd, .slice pk lk ck] 61 (0, 0))) := ⟨below_alloc w _, heap_alloc_new w _⟩
  clear hp t2 e2
  revert HBx l2
  generalize sl2 W = i
  generalize w.alloc (.cells #[.int .i64 kd, .int .i64 W, .int .i64 N, .slice pd ld cd, .slice pk lk ck] 61) = w1
  intro l2 HBx
  have HH1 : Hid (Pr w1 R B P x y n e u e u m) := HH0.out.later HBx.out.1
  have HBo : Hid (Box w1 w.heap.size kd W N (.slice pd ld cd) (.slice pk lk ck)) := HBx.out.2
  have s1 := HBx.out.1.size
  have HB1 : Hid (Below w.heap.size w w1) := HBx.out.1
  have hul : (u i).length ≤ 100 := by have := hu i l2; omega
  clear HBx HH0
  have c0 := HH1.out.cx i l2
  have c1 := HH1.out.cy i l2
  have d0 : w1.drew.cell? ⟨P, i, none⟩ = some (.pointer (some ⟨x i, 0, none⟩)) := c0
  have d1 : w1.drew.cell? ⟨P, 2 + i, none⟩ = some (.pointer (some ⟨y i, 0, none⟩)) := c1
  go_quiet (fail)
  have HH : Hid (Pr (w1.drewN nq) R B P x y n e u e u m) := HH1.out.later (below_drawn nq)
  have HX : Hid (Box (w1.drewN nq) w.heap.size kd W N (.slice pd ld cd) (.slice pk lk ck)) := HBo.out.later (below_drawn nq)
  have HB2 : Hid (Below w.heap.size w (w1.drewN nq)) := below_then HB1.out (below_drawn nq)
  have hs2 : w.heap.size ≤ (w1.drewN nq).heap.size := s1
  clear c0 c1 d0 d1 HH1 HBo HB1 s1
  revert HH HX HB2 hs2
  generalize w1.drewN nq = w2
  intro HH HX HB2 hs2
  have hB2 : B ≤ w2.heap.size := by omega
  obtain ⟨b0, b1, b2, b3, b4⟩ := HX.out.at
  clear hkd
  go_wp2
  go_ret
  exact ⟨rfl, ⟨R, x, y, e, u, m, HH.out, fun j hj => Nat.le_succ_of_le (hu j hj), by omega, by omega⟩, HB2.out.mono hB⟩

set_option maxRecDepth 100000 in
set_option maxHeartbeats 8000000 in
theorem plays_flush {w : World} {B P n K : Nat} (h : St w B P n K) (hK : K ≤ 100) (W N : Int) (pd pk : Option Addr) (ld cd lk ck : Nat) :
    Calls Try.prog 26 #[.pointer (some ⟨P, 0, none⟩), .agg #[.int .i64 3, .int .i64 W, .int .i64 N, .slice pd ld cd, .slice pk lk ck]] w fun e0 w' => e0 = .returned (.bool true) ∧ St w' B P n (K + 1) ∧ Below B w w' := by
  obtain ⟨R, x, y, e, u, m, hp, hu, hm, hB⟩ := h
  have t2 := tmod2 W
  have e2 := sl2_is W
  have l2 := sl2_lt W
  go_enter Try.func26, Try.ntmps26
  go_wp2
  rw [e2]
  have HH0 : Hid (Pr w R B P x y n e u e u m) := hp
  have HBx : Hid (Below w.heap.size w (w.alloc (.cells #[.int .i64 3, .int .i64 W, .int .i64 N, .slice pd ld cd, .slice pk lk ck] 61)) ∧ (w.alloc (.cells #[.int .i64 3, .int .i64 W, .int .i64 N, .slice pd ld cd, .slice pk lk ck] 61)).heap[w.heap.size]? = some (.cells #[.int .i64 3, .int .i64 W, .int .i64 N, .slice pd ld cd, .slice pk lk ck] 61 (0, 0))) := ⟨below_alloc w _, heap_alloc_new w _⟩
  clear hp t2 e2
  revert HBx l2
  generalize sl2 W = i
  generalize w.alloc (.cells #[.int .i64 3, .int .i64 W, .int .i64 N, .slice pd ld cd, .slice pk lk ck] 61) = w1
  intro l2 HBx
  have HH1 : Hid (Pr w1 R B P x y n e u e u m) := HH0.out.later HBx.out.1
  have HBo : Hid (Box w1 w.heap.size 3 W N (.slice pd ld cd) (.slice pk lk ck)) := HBx.out.2
  have s1 := HBx.out.1.size
  have HB1 : Hid (Below w.heap.size w w1) := HBx.out.1
  have hul : (u i).length ≤ 100 := by have := hu i l2; omega
  clear HBx HH0
  have c0 := HH1.out.cx i l2
  have c1 := HH1.out.cy i l2
  have d0 : w1.drew.cell? ⟨P, i, none⟩ = some (.pointer (some ⟨x i, 0, none⟩)) := c0
  have d1 : w1.drew.cell? ⟨P, 2 + i, none⟩ = some (.pointer (some ⟨y i, 0, none⟩)) := c1
  go_quiet (fail)
  have HH : Hid (Pr (w1.drewN nq) R B P x y n e u e u m) := HH1.out.later (below_drawn nq)
  have HX : Hid (Box (w1.drewN nq) w.heap.size 3 W N (.slice pd ld cd) (.slice pk lk ck)) := HBo.out.later (below_drawn nq)
  have HB2 : Hid (Below w.heap.size w (w1.drewN nq)) := below_then HB1.out (below_drawn nq)
  have hs2 : w.heap.size ≤ (w1.drewN nq).heap.size := s1
  clear c0 c1 d0 d1 HH1 HBo HB1 s1
  revert HH HX HB2 hs2
  generalize w1.drewN nq = w2
  intro HH HX HB2 hs2
  have hB2 : B ≤ w2.heap.size := by omega
  obtain ⟨b0, b1, b2, b3, b4⟩ := HX.out.at
  go_wp2_with fail
  refine (flush_any (HH.out.dsk i l2) (by omega)).mono ?_
  rintro e1 w3 ⟨rfl, hd, hk⟩
  have hP3 := HH.out.setD l2 hk (hd.mono (fun k _ hs => .inl hs)) hB2
  have hs3 := hk.size
  have hb3 := HH.out.kb hB2 (by omega) hk
  clear hd hk b0 b1 b2 b3 b4 HX
  go_wp2_with fail
  refine (rflush_any (hP3.ref i l2) (by omega) (fun k hk => hP3.inside (by rw [hk]; omega))).mono ?_
  rintro e1 w4 ⟨rfl, hr, hk4⟩
  have HP4 : Hid (Pr w4 _ B P x y n _ _ _ _ m) := hP3.setR l2 hk4 (hr.mono (fun k _ hs => .inl hs)) (by omega)
  have hs4 := hk4.size
  have HB4 : Hid (Below B w w4) := ((HB2.out.mono hB).trans hb3).trans (hP3.kb (by omega) (by omega) hk4)
  clear hr hk4 hP3 hb3
  go_wp2
  go_ret
  refine ⟨rfl, ⟨_, x, y, _, _, m, HP4.out, fun j hj => ?_, by omega, by omega⟩, HB4.out⟩
  have := hu j hj
  unfold at2; split
  · simp
  · omega
end Go.Proofs.Ytlidjenkicgldaa
