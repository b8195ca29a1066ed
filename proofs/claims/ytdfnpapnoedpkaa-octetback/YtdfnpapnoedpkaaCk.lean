/-
  The statement OctetBack: its walk at each size, 1, 2, 3, 4.
-/
import Derived.Test.YtdfnpapnoedpkaaCj
import Derived.Deep.RegionHeld3
namespace Go.Proofs.Ytdfnpapnoedpkaa
open Go.RowKit

set_option maxHeartbeats 1000000 in
theorem back_1 (n m s : Int) (p : Option Addr) (l c : Nat) (xs : List Int) (w : World) (hn0 : 0 ≤ n) (hn1 : n ≤ 18446744073709551615) (hm0 : 0 ≤ m) (hm1 : m ≤ 18446744073709551615) 
   (hx : BIn w p l xs) (hlc : l ≤ c) (hbig : l ≤ 140737488351232) (t : Int) (ht : s.tmod 8 = t) (ht0 : -8 < t) (ht1 : t < 8) (hj : (t + 8) % 8 = 0) : 
   Calls Try.prog 4 #[.int .u64 n, .int .u64 m, .int .i64 s, .slice p l c] w fun e w' => e = .returned (.bool true) ∧ Below w.heap.size w w' := by
  go_enter Try.func4, Try.ntmps4
  go_wp2_with fail
  refine (awake_any _).mono ?_
  rintro e w1 ⟨rfl, hb1⟩
  go_wp2_with fail
  clear hj ht
  go_quiet (fail)
  go_wp2_with fail
  have g0 : 0 ≤ n % 256 := by omega
  have g1 : n % 256 < 256 ^ 1 := by omega
  have f0 : 0 ≤ m % 256 := by omega
  have f1 : m % 256 < 256 ^ 1 := by omega
  generalize n % 256 = N at *
  generalize m % 256 = M at *
  have hx1 : BIn w1 p l xs := hx.later hb1
  have hx2 := hx1.drewN nq
  refine (put_good N 1 1 rfl (by omega) g0 g1 _).mono ?_
  rintro e w2 ⟨p2, c2, rfl, h2, hc2, _, hb2⟩
  have hx3 := hx2.later hb2
  go_wp2_with fail
  refine (put_good M 1 1 rfl (by omega) f0 f1 _).mono ?_
  rintro e w3 ⟨p3, c3, rfl, h3, hc3, _, hb3⟩
  go_wp2_with fail
  refine (take_back p2 c2 N 1 1 rfl (by omega) g0 g1 _ (h2.later hb3) hc2).mono ?_
  rintro e w4 ⟨p4, c4, rfl, hb4⟩
  have q1 := ((h2.later hb3).later hb4).str c2
  have q2 := (h3.later hb4).str c3
  have q3 := str_num 1 N M g0 g1 f0 f1
  have q4 : (((1 : Nat) : Int) != 1) = false := rfl
  have hx4 := (hx3.later hb3).later hb4
  have hall := below_then (below_then (below_then hb1 ⟨hb2.os, hb2.tape, hb2.output, hb2.size, hb2.block⟩) hb3) hb4
  have HA : Hid (_) := hall
  have HX : Hid (BIn w4 p l xs) := hx4
  clear hall hb1 hb2 hb3 hb4 hx hx1 hx2 hx3 hx4 h2 h3
  by_cases hl : l < 1
  · have hl' : (l : Int) < 1 := by omega
    go_wp2
    go_ret
    exact ⟨rfl, HA.out⟩
  · have hl' : ¬ (l : Int) < 1 := by omega
    go_wp2_with fail
    clear q1 q2 q3 q4 g0 g1 f0 f1
    refine (take_good p l c xs 1 1 rfl (by omega) _ HX.out hlc (by omega) (by omega)).mono ?_
    rintro e w5 ⟨p5, c5, rfl, h5, hc5, hn5, hb5⟩
    have hbd := worth_bd (xs.take 1) (HX.out.byte.take 1)
    have hdw : digits 1 (worth (xs.take 1)) = xs.take 1 := by
      have := digits_worth (xs.take 1) (HX.out.byte.take 1)
      rw [List.length_take, HX.out.len, Nat.min_eq_left (by omega)] at this
      exact this
    rw [List.length_take, HX.out.len, Nat.min_eq_left (by omega)] at hbd
    have HD : Hid (_) := hdw
    clear hdw
    generalize worth (xs.take 1) = V at *
    go_wp2_with fail
    refine (put_good V 1 1 rfl (by omega) hbd.1 hbd.2 _).mono ?_
    rintro e w6 ⟨p6, c6, rfl, h6, hc6, hn6, hb6⟩
    rw [HD.out] at h6
    have h5' := h5.later hb6
    have hx6 := (HX.out.later hb5).later hb6
    have HB6 : Hid (Below w.heap.size w w6) := below_then (below_then HA.out hb5) hb6
    clear h5 hb5 hb6 hbd HA HX HD
    go_wp2_with fail
    have z1 := hx6.drew.str c
    have z2 := (hx6.later (below_alloc w6 (.cells #[.slice p6 1 c6, .slice p5 (l - 1) c5] 23))).drew.str c
    have HX6 : Hid (BIn w6 p l xs) := hx6
    clear hx6
    refine wp_region_noPanic ?_
    refine wp_region_held_drew (S := (fun w' => Sem.run Try.prog (convert 23 9 (Value.slice p l c)) w' = Result.ok (Value.string (strOfNums xs)) w')) (by kernel_rfl) z1 (fun hHeld => ?_)
    refine wpAnyH_take (i := 0) (v := ?v0) (by simp; rfl) (by kernel_rfl) (by kernel_rfl) (by kernel_rfl) (fun _ _ _ h => h) (Or.inl ⟨by rfl, ?y0⟩) hHeld ?r0
    case y0 => intro w hSw; go_simp; with_reducible rfl
    simp only [Act.put, List.setIfInBounds_toArray, List.set_cons_zero, List.set_cons_succ]
    refine wpAnyH_take (i := 1) (v := ?v1) (by simp; rfl) (by kernel_rfl) (by kernel_rfl) (by kernel_rfl) (fun _ _ _ h => h) (Or.inl ⟨by rfl, ?y1⟩) hHeld ?r1
    case y1 => intro w hSw; go_simp; with_reducible rfl
    simp only [Act.put, List.setIfInBounds_toArray, List.set_cons_zero, List.set_cons_succ]
    refine wpAnyH_take (i := 2) (v := ?v2) (by simp; rfl) (by kernel_rfl) (by kernel_rfl) (by kernel_rfl) (fun _ _ _ h => h) (Or.inl ⟨by rfl, ?y2⟩) hHeld ?r2
    case y2 => intro w hSw; go_simp; with_reducible rfl
    simp only [Act.put, List.setIfInBounds_toArray, List.set_cons_zero, List.set_cons_succ]
    refine wpAnyH_take (i := 3) (v := ?v3) (by simp; rfl) (by kernel_rfl) (by kernel_rfl) (by kernel_rfl) (fun _ _ _ h => h) (Or.inl ⟨by rfl, ?y3⟩) hHeld ?r3
    case y3 => intro w hSw; go_simp; with_reducible rfl
    simp only [Act.put, List.setIfInBounds_toArray, List.set_cons_zero, List.set_cons_succ]
    refine wpAnyH_take (i := 4) (v := ?v4) (by simp; rfl) (by kernel_rfl) (by kernel_rfl) (by kernel_rfl) (fun _ _ _ h => h) (Or.inl ⟨by rfl, ?y4⟩) hHeld ?r4
    case y4 => intro w hSw; go_simp; with_reducible rfl
    simp only [Act.put, List.setIfInBounds_toArray, List.set_cons_zero, List.set_cons_succ]
    refine wpAnyH_take (i := 5) (v := ?v5) (by simp; rfl) (by kernel_rfl) (by kernel_rfl) (by kernel_rfl) (fun _ _ _ h => h) (Or.inl ⟨by rfl, ?y5⟩) hHeld ?r5
    case y5 => intro w hSw; go_simp; with_reducible rfl
    simp only [Act.put, List.setIfInBounds_toArray, List.set_cons_zero, List.set_cons_succ]
    refine wpAnyH_take (i := 6) (v := ?v6) (by simp; rfl) (by kernel_rfl) (by kernel_rfl) (by kernel_rfl) (fun _ _ _ h => h) (Or.inl ⟨by rfl, ?y6⟩) hHeld ?r6
    case y6 => intro w hSw; go_simp; with_reducible rfl
    simp only [Act.put, List.setIfInBounds_toArray, List.set_cons_zero, List.set_cons_succ]
    refine wpAnyH_take (i := 7) (v := ?v7) (by simp; rfl) (by kernel_rfl) (by kernel_rfl) (by kernel_rfl) (fun _ _ _ h => h) (Or.inl ⟨by rfl, ?y7⟩) hHeld ?r7
    case y7 => intro w hSw; go_simp; with_reducible rfl
    simp only [Act.put, List.setIfInBounds_toArray, List.set_cons_zero, List.set_cons_succ]
    refine wpAnyH_take (i := 8) (v := ?v8) (by simp; rfl) (by kernel_rfl) (by kernel_rfl) (by kernel_rfl) (fun _ _ _ h => h) (Or.inl ⟨by rfl, ?y8⟩) hHeld ?r8
    case y8 => intro w hSw; go_simp; with_reducible rfl
    simp only [Act.put, List.setIfInBounds_toArray, List.set_cons_zero, List.set_cons_succ]
    refine wpAnyH_take (i := 12) (v := ?v12) (by simp; rfl) (by kernel_rfl) (by kernel_rfl) (by kernel_rfl) (fun _ _ _ h => h) (Or.inl ⟨by rfl, ?y12⟩) hHeld ?r12
    case y12 => intro w hSw; go_simp; with_reducible rfl
    simp only [Act.put, List.setIfInBounds_toArray, List.set_cons_zero, List.set_cons_succ]
    refine wpAnyH_take (i := 13) (v := ?v13) (by simp; rfl) (by kernel_rfl) (by kernel_rfl) (by kernel_rfl) (fun _ _ _ h => h) (Or.inl ⟨by rfl, ?y13⟩) hHeld ?r13
    case y13 => intro w hSw; go_simp; with_reducible rfl
    simp only [Act.put, List.setIfInBounds_toArray, List.set_cons_zero, List.set_cons_succ]
    refine wpAnyH_ready (rs := [9]) (by kernel_rfl) (by simp) ?_
    refine AllReadyH.cons (by simp; rfl) (fun K hK => ?_) AllReadyH.nil
    go_simp
    refine hK.out _ _ z2 (fun hHeld => ?_)
    clear hK K
    refine wpAnyH_ready (rs := [10]) (by kernel_rfl) (by simp) ?_
    refine AllReadyH.cons (by simp; rfl) (fun K hK => ?_) AllReadyH.nil
    go_simp
    refine (join_back w6 p6 p5 1 l c6 c5 xs h6 h5' hc6 hn6 hc5 hn5 (by omega) (by omega)).mono ?_
    rintro e w7 ⟨p7, c7, rfl, h7, hb7⟩
    have z7 := h7.str c7
    have z8 := (HX6.out.later hb7).str c
    refine hK.out _ _ z8 (fun hHeld => ?_)
    clear hK K
    refine wpAnyH_ready (rs := [11]) (by kernel_rfl) (by simp) ?_
    refine AllReadyH.cons (by simp; rfl) (fun K hK => ?_) AllReadyH.nil
    go_simp
    refine hK.out _ _ z8 (fun hHeld => ?_)
    clear hK K
    refine wpAnyH_take (i := 14) (v := ?v14) (by simp; rfl) (by kernel_rfl) (by kernel_rfl) (by kernel_rfl) (fun _ _ _ h => h) (Or.inl ⟨by rfl, ?y14⟩) hHeld ?r14
    case y14 => intro w hSw; go_simp; with_reducible rfl
    simp only [Act.put, List.setIfInBounds_toArray, List.set_cons_zero, List.set_cons_succ]
    refine wpAnyH_take (i := 15) (v := ?v15) (by simp; rfl) (by kernel_rfl) (by kernel_rfl) (by kernel_rfl) (fun _ _ _ h => h) (Or.inl ⟨by rfl, ?y15⟩) hHeld ?r15
    case y15 => intro w hSw; go_simp; with_reducible rfl
    simp only [Act.put, List.setIfInBounds_toArray, List.set_cons_zero, List.set_cons_succ]
    refine wpAnyH_take (i := 16) (v := ?v16) (by simp; rfl) (by kernel_rfl) (by kernel_rfl) (by kernel_rfl) (fun _ _ _ h => h) (Or.inl ⟨by rfl, ?y16⟩) hHeld ?r16
    case y16 => intro w hSw; go_simp; with_reducible rfl
    simp only [Act.put, List.setIfInBounds_toArray, List.set_cons_zero, List.set_cons_succ]
    refine wpAnyH_done (by kernel_rfl) ?_ _
    refine NoPanic.normal ?_
    go_wp2
    go_ret
    exact ⟨rfl, below_then HB6.out hb7⟩


set_option maxHeartbeats 1000000 in
theorem back_2 (n m s : Int) (p : Option Addr) (l c : Nat) (xs : List Int) (w : World) (hn0 : 0 ≤ n) (hn1 : n ≤ 18446744073709551615) (hm0 : 0 ≤ m) (hm1 : m ≤ 18446744073709551615) 
   (hx : BIn w p l xs) (hlc : l ≤ c) (hbig : l ≤ 140737488351232) (t : Int) (ht : s.tmod 8 = t) (ht0 : -8 < t) (ht1 : t < 8) (hj : (t + 8) % 8 = 1) : 
   Calls Try.prog 4 #[.int .u64 n, .int .u64 m, .int .i64 s, .slice p l c] w fun e w' => e = .returned (.bool true) ∧ Below w.heap.size w w' := by
  go_enter Try.func4, Try.ntmps4
  go_wp2_with fail
  refine (awake_any _).mono ?_
  rintro e w1 ⟨rfl, hb1⟩
  go_wp2_with fail
  clear hj ht
  go_quiet (fail)
  go_wp2_with fail
  have g0 : 0 ≤ n % 65536 := by omega
  have g1 : n % 65536 < 256 ^ 2 := by omega
  have f0 : 0 ≤ m % 65536 := by omega
  have f1 : m % 65536 < 256 ^ 2 := by omega
  generalize n % 65536 = N at *
  generalize m % 65536 = M at *
  have hx1 : BIn w1 p l xs := hx.later hb1
  have hx2 := hx1.drewN nq
  refine (put_good N 2 2 rfl (by omega) g0 g1 _).mono ?_
  rintro e w2 ⟨p2, c2, rfl, h2, hc2, _, hb2⟩
  have hx3 := hx2.later hb2
  go_wp2_with fail
  refine (put_good M 2 2 rfl (by omega) f0 f1 _).mono ?_
  rintro e w3 ⟨p3, c3, rfl, h3, hc3, _, hb3⟩
  go_wp2_with fail
  refine (take_back p2 c2 N 2 2 rfl (by omega) g0 g1 _ (h2.later hb3) hc2).mono ?_
  rintro e w4 ⟨p4, c4, rfl, hb4⟩
  have q1 := ((h2.later hb3).later hb4).str c2
  have q2 := (h3.later hb4).str c3
  have q3 := str_num 2 N M g0 g1 f0 f1
  have q4 : (((2 : Nat) : Int) != 2) = false := rfl
  have hx4 := (hx3.later hb3).later hb4
  have hall := below_then (below_then (below_then hb1 ⟨hb2.os, hb2.tape, hb2.output, hb2.size, hb2.block⟩) hb3) hb4
  have HA : Hid (_) := hall
  have HX : Hid (BIn w4 p l xs) := hx4
  clear hall hb1 hb2 hb3 hb4 hx hx1 hx2 hx3 hx4 h2 h3
  by_cases hl : l < 2
  · have hl' : (l : Int) < 2 := by omega
    go_wp2
    go_ret
    exact ⟨rfl, HA.out⟩
  · have hl' : ¬ (l : Int) < 2 := by omega
    go_wp2_with fail
    clear q1 q2 q3 q4 g0 g1 f0 f1
    refine (take_good p l c xs 2 2 rfl (by omega) _ HX.out hlc (by omega) (by omega)).mono ?_
    rintro e w5 ⟨p5, c5, rfl, h5, hc5, hn5, hb5⟩
    have hbd := worth_bd (xs.take 2) (HX.out.byte.take 2)
    have hdw : digits 2 (worth (xs.take 2)) = xs.take 2 := by
      have := digits_worth (xs.take 2) (HX.out.byte.take 2)
      rw [List.length_take, HX.out.len, Nat.min_eq_left (by omega)] at this
      exact this
    rw [List.length_take, HX.out.len, Nat.min_eq_left (by omega)] at hbd
    have HD : Hid (_) := hdw
    clear hdw
    generalize worth (xs.take 2) = V at *
    go_wp2_with fail
    refine (put_good V 2 2 rfl (by omega) hbd.1 hbd.2 _).mono ?_
    rintro e w6 ⟨p6, c6, rfl, h6, hc6, hn6, hb6⟩
    rw [HD.out] at h6
    have h5' := h5.later hb6
    have hx6 := (HX.out.later hb5).later hb6
    have HB6 : Hid (Below w.heap.size w w6) := below_then (below_then HA.out hb5) hb6
    clear h5 hb5 hb6 hbd HA HX HD
    go_wp2_with fail
    have z1 := hx6.drew.str c
    have z2 := (hx6.later (below_alloc w6 (.cells #[.slice p6 2 c6, .slice p5 (l - 2) c5] 23))).drew.str c
    have HX6 : Hid (BIn w6 p l xs) := hx6
    clear hx6
    refine wp_region_noPanic ?_
    refine wp_region_held_drew (S := (fun w' => Sem.run Try.prog (convert 23 9 (Value.slice p l c)) w' = Result.ok (Value.string (strOfNums xs)) w')) (by kernel_rfl) z1 (fun hHeld => ?_)
    refine wpAnyH_take (i := 0) (v := ?v0) (by simp; rfl) (by kernel_rfl) (by kernel_rfl) (by kernel_rfl) (fun _ _ _ h => h) (Or.inl ⟨by rfl, ?y0⟩) hHeld ?r0
    case y0 => intro w hSw; go_simp; with_reducible rfl
    simp only [Act.put, List.setIfInBounds_toArray, List.set_cons_zero, List.set_cons_succ]
    refine wpAnyH_take (i := 1) (v := ?v1) (by simp; rfl) (by kernel_rfl) (by kernel_rfl) (by kernel_rfl) (fun _ _ _ h => h) (Or.inl ⟨by rfl, ?y1⟩) hHeld ?r1
    case y1 => intro w hSw; go_simp; with_reducible rfl
    simp only [Act.put, List.setIfInBounds_toArray, List.set_cons_zero, List.set_cons_succ]
    refine wpAnyH_take (i := 2) (v := ?v2) (by simp; rfl) (by kernel_rfl) (by kernel_rfl) (by kernel_rfl) (fun _ _ _ h => h) (Or.inl ⟨by rfl, ?y2⟩) hHeld ?r2
    case y2 => intro w hSw; go_simp; with_reducible rfl
    simp only [Act.put, List.setIfInBounds_toArray, List.set_cons_zero, List.set_cons_succ]
    refine wpAnyH_take (i := 3) (v := ?v3) (by simp; rfl) (by kernel_rfl) (by kernel_rfl) (by kernel_rfl) (fun _ _ _ h => h) (Or.inl ⟨by rfl, ?y3⟩) hHeld ?r3
    case y3 => intro w hSw; go_simp; with_reducible rfl
    simp only [Act.put, List.setIfInBounds_toArray, List.set_cons_zero, List.set_cons_succ]
    refine wpAnyH_take (i := 4) (v := ?v4) (by simp; rfl) (by kernel_rfl) (by kernel_rfl) (by kernel_rfl) (fun _ _ _ h => h) (Or.inl ⟨by rfl, ?y4⟩) hHeld ?r4
    case y4 => intro w hSw; go_simp; with_reducible rfl
    simp only [Act.put, List.setIfInBounds_toArray, List.set_cons_zero, List.set_cons_succ]
    refine wpAnyH_take (i := 5) (v := ?v5) (by simp; rfl) (by kernel_rfl) (by kernel_rfl) (by kernel_rfl) (fun _ _ _ h => h) (Or.inl ⟨by rfl, ?y5⟩) hHeld ?r5
    case y5 => intro w hSw; go_simp; with_reducible rfl
    simp only [Act.put, List.setIfInBounds_toArray, List.set_cons_zero, List.set_cons_succ]
    refine wpAnyH_take (i := 6) (v := ?v6) (by simp; rfl) (by kernel_rfl) (by kernel_rfl) (by kernel_rfl) (fun _ _ _ h => h) (Or.inl ⟨by rfl, ?y6⟩) hHeld ?r6
    case y6 => intro w hSw; go_simp; with_reducible rfl
    simp only [Act.put, List.setIfInBounds_toArray, List.set_cons_zero, List.set_cons_succ]
    refine wpAnyH_take (i := 7) (v := ?v7) (by simp; rfl) (by kernel_rfl) (by kernel_rfl) (by kernel_rfl) (fun _ _ _ h => h) (Or.inl ⟨by rfl, ?y7⟩) hHeld ?r7
    case y7 => intro w hSw; go_simp; with_reducible rfl
    simp only [Act.put, List.setIfInBounds_toArray, List.set_cons_zero, List.set_cons_succ]
    refine wpAnyH_take (i := 8) (v := ?v8) (by simp; rfl) (by kernel_rfl) (by kernel_rfl) (by kernel_rfl) (fun _ _ _ h => h) (Or.inl ⟨by rfl, ?y8⟩) hHeld ?r8
    case y8 => intro w hSw; go_simp; with_reducible rfl
    simp only [Act.put, List.setIfInBounds_toArray, List.set_cons_zero, List.set_cons_succ]
    refine wpAnyH_take (i := 12) (v := ?v12) (by simp; rfl) (by kernel_rfl) (by kernel_rfl) (by kernel_rfl) (fun _ _ _ h => h) (Or.inl ⟨by rfl, ?y12⟩) hHeld ?r12
    case y12 => intro w hSw; go_simp; with_reducible rfl
    simp only [Act.put, List.setIfInBounds_toArray, List.set_cons_zero, List.set_cons_succ]
    refine wpAnyH_take (i := 13) (v := ?v13) (by simp; rfl) (by kernel_rfl) (by kernel_rfl) (by kernel_rfl) (fun _ _ _ h => h) (Or.inl ⟨by rfl, ?y13⟩) hHeld ?r13
    case y13 => intro w hSw; go_simp; with_reducible rfl
    simp only [Act.put, List.setIfInBounds_toArray, List.set_cons_zero, List.set_cons_succ]
    refine wpAnyH_ready (rs := [9]) (by kernel_rfl) (by simp) ?_
    refine AllReadyH.cons (by simp; rfl) (fun K hK => ?_) AllReadyH.nil
    go_simp
    refine hK.out _ _ z2 (fun hHeld => ?_)
    clear hK K
    refine wpAnyH_ready (rs := [10]) (by kernel_rfl) (by simp) ?_
    refine AllReadyH.cons (by simp; rfl) (fun K hK => ?_) AllReadyH.nil
    go_simp
    refine (join_back w6 p6 p5 2 l c6 c5 xs h6 h5' hc6 hn6 hc5 hn5 (by omega) (by omega)).mono ?_
    rintro e w7 ⟨p7, c7, rfl, h7, hb7⟩
    have z7 := h7.str c7
    have z8 := (HX6.out.later hb7).str c
    refine hK.out _ _ z8 (fun hHeld => ?_)
    clear hK K
    refine wpAnyH_ready (rs := [11]) (by kernel_rfl) (by simp) ?_
    refine AllReadyH.cons (by simp; rfl) (fun K hK => ?_) AllReadyH.nil
    go_simp
    refine hK.out _ _ z8 (fun hHeld => ?_)
    clear hK K
    refine wpAnyH_take (i := 14) (v := ?v14) (by simp; rfl) (by kernel_rfl) (by kernel_rfl) (by kernel_rfl) (fun _ _ _ h => h) (Or.inl ⟨by rfl, ?y14⟩) hHeld ?r14
    case y14 => intro w hSw; go_simp; with_reducible rfl
    simp only [Act.put, List.setIfInBounds_toArray, List.set_cons_zero, List.set_cons_succ]
    refine wpAnyH_take (i := 15) (v := ?v15) (by simp; rfl) (by kernel_rfl) (by kernel_rfl) (by kernel_rfl) (fun _ _ _ h => h) (Or.inl ⟨by rfl, ?y15⟩) hHeld ?r15
    case y15 => intro w hSw; go_simp; with_reducible rfl
    simp only [Act.put, List.setIfInBounds_toArray, List.set_cons_zero, List.set_cons_succ]
    refine wpAnyH_take (i := 16) (v := ?v16) (by simp; rfl) (by kernel_rfl) (by kernel_rfl) (by kernel_rfl) (fun _ _ _ h => h) (Or.inl ⟨by rfl, ?y16⟩) hHeld ?r16
    case y16 => intro w hSw; go_simp; with_reducible rfl
    simp only [Act.put, List.setIfInBounds_toArray, List.set_cons_zero, List.set_cons_succ]
    refine wpAnyH_done (by kernel_rfl) ?_ _
    refine NoPanic.normal ?_
    go_wp2
    go_ret
    exact ⟨rfl, below_then HB6.out hb7⟩


set_option maxHeartbeats 1000000 in
theorem back_3 (n m s : Int) (p : Option Addr) (l c : Nat) (xs : List Int) (w : World) (hn0 : 0 ≤ n) (hn1 : n ≤ 18446744073709551615) (hm0 : 0 ≤ m) (hm1 : m ≤ 18446744073709551615) 
   (hx : BIn w p l xs) (hlc : l ≤ c) (hbig : l ≤ 140737488351232) (t : Int) (ht : s.tmod 8 = t) (ht0 : -8 < t) (ht1 : t < 8) (hj : (t + 8) % 8 = 2) : 
   Calls Try.prog 4 #[.int .u64 n, .int .u64 m, .int .i64 s, .slice p l c] w fun e w' => e = .returned (.bool true) ∧ Below w.heap.size w w' := by
  go_enter Try.func4, Try.ntmps4
  go_wp2_with fail
  refine (awake_any _).mono ?_
  rintro e w1 ⟨rfl, hb1⟩
  go_wp2_with fail
  clear hj ht
  go_quiet (fail)
  go_wp2_with fail
  have g0 : 0 ≤ n % 16777216 := by omega
  have g1 : n % 16777216 < 256 ^ 3 := by omega
  have f0 : 0 ≤ m % 16777216 := by omega
  have f1 : m % 16777216 < 256 ^ 3 := by omega
  generalize n % 16777216 = N at *
  generalize m % 16777216 = M at *
  have hx1 : BIn w1 p l xs := hx.later hb1
  have hx2 := hx1.drewN nq
  refine (put_good N 3 3 rfl (by omega) g0 g1 _).mono ?_
  rintro e w2 ⟨p2, c2, rfl, h2, hc2, _, hb2⟩
  have hx3 := hx2.later hb2
  go_wp2_with fail
  refine (put_good M 3 3 rfl (by omega) f0 f1 _).mono ?_
  rintro e w3 ⟨p3, c3, rfl, h3, hc3, _, hb3⟩
  go_wp2_with fail
  refine (take_back p2 c2 N 3 3 rfl (by omega) g0 g1 _ (h2.later hb3) hc2).mono ?_
  rintro e w4 ⟨p4, c4, rfl, hb4⟩
  have q1 := ((h2.later hb3).later hb4).str c2
  have q2 := (h3.later hb4).str c3
  have q3 := str_num 3 N M g0 g1 f0 f1
  have q4 : (((3 : Nat) : Int) != 3) = false := rfl
  have hx4 := (hx3.later hb3).later hb4
  have hall := below_then (below_then (below_then hb1 ⟨hb2.os, hb2.tape, hb2.output, hb2.size, hb2.block⟩) hb3) hb4
  have HA : Hid (_) := hall
  have HX : Hid (BIn w4 p l xs) := hx4
  clear hall hb1 hb2 hb3 hb4 hx hx1 hx2 hx3 hx4 h2 h3
  by_cases hl : l < 3
  · have hl' : (l : Int) < 3 := by omega
    go_wp2
    go_ret
    exact ⟨rfl, HA.out⟩
  · have hl' : ¬ (l : Int) < 3 := by omega
    go_wp2_with fail
    clear q1 q2 q3 q4 g0 g1 f0 f1
    refine (take_good p l c xs 3 3 rfl (by omega) _ HX.out hlc (by omega) (by omega)).mono ?_
    rintro e w5 ⟨p5, c5, rfl, h5, hc5, hn5, hb5⟩
    have hbd := worth_bd (xs.take 3) (HX.out.byte.take 3)
    have hdw : digits 3 (worth (xs.take 3)) = xs.take 3 := by
      have := digits_worth (xs.take 3) (HX.out.byte.take 3)
      rw [List.length_take, HX.out.len, Nat.min_eq_left (by omega)] at this
      exact this
    rw [List.length_take, HX.out.len, Nat.min_eq_left (by omega)] at hbd
    have HD : Hid (_) := hdw
    clear hdw
    generalize worth (xs.take 3) = V at *
    go_wp2_with fail
    refine (put_good V 3 3 rfl (by omega) hbd.1 hbd.2 _).mono ?_
    rintro e w6 ⟨p6, c6, rfl, h6, hc6, hn6, hb6⟩
    rw [HD.out] at h6
    have h5' := h5.later hb6
    have hx6 := (HX.out.later hb5).later hb6
    have HB6 : Hid (Below w.heap.size w w6) := below_then (below_then HA.out hb5) hb6
    clear h5 hb5 hb6 hbd HA HX HD
    go_wp2_with fail
    have z1 := hx6.drew.str c
    have z2 := (hx6.later (below_alloc w6 (.cells #[.slice p6 3 c6, .slice p5 (l - 3) c5] 23))).drew.str c
    have HX6 : Hid (BIn w6 p l xs) := hx6
    clear hx6
    refine wp_region_noPanic ?_
    refine wp_region_held_drew (S := (fun w' => Sem.run Try.prog (convert 23 9 (Value.slice p l c)) w' = Result.ok (Value.string (strOfNums xs)) w')) (by kernel_rfl) z1 (fun hHeld => ?_)
    refine wpAnyH_take (i := 0) (v := ?v0) (by simp; rfl) (by kernel_rfl) (by kernel_rfl) (by kernel_rfl) (fun _ _ _ h => h) (Or.inl ⟨by rfl, ?y0⟩) hHeld ?r0
    case y0 => intro w hSw; go_simp; with_reducible rfl
    simp only [Act.put, List.setIfInBounds_toArray, List.set_cons_zero, List.set_cons_succ]
    refine wpAnyH_take (i := 1) (v := ?v1) (by simp; rfl) (by kernel_rfl) (by kernel_rfl) (by kernel_rfl) (fun _ _ _ h => h) (Or.inl ⟨by rfl, ?y1⟩) hHeld ?r1
    case y1 => intro w hSw; go_simp; with_reducible rfl
    simp only [Act.put, List.setIfInBounds_toArray, List.set_cons_zero, List.set_cons_succ]
    refine wpAnyH_take (i := 2) (v := ?v2) (by simp; rfl) (by kernel_rfl) (by kernel_rfl) (by kernel_rfl) (fun _ _ _ h => h) (Or.inl ⟨by rfl, ?y2⟩) hHeld ?r2
    case y2 => intro w hSw; go_simp; with_reducible rfl
    simp only [Act.put, List.setIfInBounds_toArray, List.set_cons_zero, List.set_cons_succ]
    refine wpAnyH_take (i := 3) (v := ?v3) (by simp; rfl) (by kernel_rfl) (by kernel_rfl) (by kernel_rfl) (fun _ _ _ h => h) (Or.inl ⟨by rfl, ?y3⟩) hHeld ?r3
    case y3 => intro w hSw; go_simp; with_reducible rfl
    simp only [Act.put, List.setIfInBounds_toArray, List.set_cons_zero, List.set_cons_succ]
    refine wpAnyH_take (i := 4) (v := ?v4) (by simp; rfl) (by kernel_rfl) (by kernel_rfl) (by kernel_rfl) (fun _ _ _ h => h) (Or.inl ⟨by rfl, ?y4⟩) hHeld ?r4
    case y4 => intro w hSw; go_simp; with_reducible rfl
    simp only [Act.put, List.setIfInBounds_toArray, List.set_cons_zero, List.set_cons_succ]
    refine wpAnyH_take (i := 5) (v := ?v5) (by simp; rfl) (by kernel_rfl) (by kernel_rfl) (by kernel_rfl) (fun _ _ _ h => h) (Or.inl ⟨by rfl, ?y5⟩) hHeld ?r5
    case y5 => intro w hSw; go_simp; with_reducible rfl
    simp only [Act.put, List.setIfInBounds_toArray, List.set_cons_zero, List.set_cons_succ]
    refine wpAnyH_take (i := 6) (v := ?v6) (by simp; rfl) (by kernel_rfl) (by kernel_rfl) (by kernel_rfl) (fun _ _ _ h => h) (Or.inl ⟨by rfl, ?y6⟩) hHeld ?r6
    case y6 => intro w hSw; go_simp; with_reducible rfl
    simp only [Act.put, List.setIfInBounds_toArray, List.set_cons_zero, List.set_cons_succ]
    refine wpAnyH_take (i := 7) (v := ?v7) (by simp; rfl) (by kernel_rfl) (by kernel_rfl) (by kernel_rfl) (fun _ _ _ h => h) (Or.inl ⟨by rfl, ?y7⟩) hHeld ?r7
    case y7 => intro w hSw; go_simp; with_reducible rfl
    simp only [Act.put, List.setIfInBounds_toArray, List.set_cons_zero, List.set_cons_succ]
    refine wpAnyH_take (i := 8) (v := ?v8) (by simp; rfl) (by kernel_rfl) (by kernel_rfl) (by kernel_rfl) (fun _ _ _ h => h) (Or.inl ⟨by rfl, ?y8⟩) hHeld ?r8
    case y8 => intro w hSw; go_simp; with_reducible rfl
    simp only [Act.put, List.setIfInBounds_toArray, List.set_cons_zero, List.set_cons_succ]
    refine wpAnyH_take (i := 12) (v := ?v12) (by simp; rfl) (by kernel_rfl) (by kernel_rfl) (by kernel_rfl) (fun _ _ _ h => h) (Or.inl ⟨by rfl, ?y12⟩) hHeld ?r12
    case y12 => intro w hSw; go_simp; with_reducible rfl
    simp only [Act.put, List.setIfInBounds_toArray, List.set_cons_zero, List.set_cons_succ]
    refine wpAnyH_take (i := 13) (v := ?v13) (by simp; rfl) (by kernel_rfl) (by kernel_rfl) (by kernel_rfl) (fun _ _ _ h => h) (Or.inl ⟨by rfl, ?y13⟩) hHeld ?r13
    case y13 => intro w hSw; go_simp; with_reducible rfl
    simp only [Act.put, List.setIfInBounds_toArray, List.set_cons_zero, List.set_cons_succ]
    refine wpAnyH_ready (rs := [9]) (by kernel_rfl) (by simp) ?_
    refine AllReadyH.cons (by simp; rfl) (fun K hK => ?_) AllReadyH.nil
    go_simp
    refine hK.out _ _ z2 (fun hHeld => ?_)
    clear hK K
    refine wpAnyH_ready (rs := [10]) (by kernel_rfl) (by simp) ?_
    refine AllReadyH.cons (by simp; rfl) (fun K hK => ?_) AllReadyH.nil
    go_simp
    refine (join_back w6 p6 p5 3 l c6 c5 xs h6 h5' hc6 hn6 hc5 hn5 (by omega) (by omega)).mono ?_
    rintro e w7 ⟨p7, c7, rfl, h7, hb7⟩
    have z7 := h7.str c7
    have z8 := (HX6.out.later hb7).str c
    refine hK.out _ _ z8 (fun hHeld => ?_)
    clear hK K
    refine wpAnyH_ready (rs := [11]) (by kernel_rfl) (by simp) ?_
    refine AllReadyH.cons (by simp; rfl) (fun K hK => ?_) AllReadyH.nil
    go_simp
    refine hK.out _ _ z8 (fun hHeld => ?_)
    clear hK K
    refine wpAnyH_take (i := 14) (v := ?v14) (by simp; rfl) (by kernel_rfl) (by kernel_rfl) (by kernel_rfl) (fun _ _ _ h => h) (Or.inl ⟨by rfl, ?y14⟩) hHeld ?r14
    case y14 => intro w hSw; go_simp; with_reducible rfl
    simp only [Act.put, List.setIfInBounds_toArray, List.set_cons_zero, List.set_cons_succ]
    refine wpAnyH_take (i := 15) (v := ?v15) (by simp; rfl) (by kernel_rfl) (by kernel_rfl) (by kernel_rfl) (fun _ _ _ h => h) (Or.inl ⟨by rfl, ?y15⟩) hHeld ?r15
    case y15 => intro w hSw; go_simp; with_reducible rfl
    simp only [Act.put, List.setIfInBounds_toArray, List.set_cons_zero, List.set_cons_succ]
    refine wpAnyH_take (i := 16) (v := ?v16) (by simp; rfl) (by kernel_rfl) (by kernel_rfl) (by kernel_rfl) (fun _ _ _ h => h) (Or.inl ⟨by rfl, ?y16⟩) hHeld ?r16
    case y16 => intro w hSw; go_simp; with_reducible rfl
    simp only [Act.put, List.setIfInBounds_toArray, List.set_cons_zero, List.set_cons_succ]
    refine wpAnyH_done (by kernel_rfl) ?_ _
    refine NoPanic.normal ?_
    go_wp2
    go_ret
    exact ⟨rfl, below_then HB6.out hb7⟩


set_option maxHeartbeats 1000000 in
theorem back_4 (n m s : Int) (p : Option Addr) (l c : Nat) (xs : List Int) (w : World) (hn0 : 0 ≤ n) (hn1 : n ≤ 18446744073709551615) (hm0 : 0 ≤ m) (hm1 : m ≤ 18446744073709551615) 
   (hx : BIn w p l xs) (hlc : l ≤ c) (hbig : l ≤ 140737488351232) (t : Int) (ht : s.tmod 8 = t) (ht0 : -8 < t) (ht1 : t < 8) (hj : (t + 8) % 8 = 3) : 
   Calls Try.prog 4 #[.int .u64 n, .int .u64 m, .int .i64 s, .slice p l c] w fun e w' => e = .returned (.bool true) ∧ Below w.heap.size w w' := by
  go_enter Try.func4, Try.ntmps4
  go_wp2_with fail
  refine (awake_any _).mono ?_
  rintro e w1 ⟨rfl, hb1⟩
  go_wp2_with fail
  clear hj ht
  go_quiet (fail)
  go_wp2_with fail
  have g0 : 0 ≤ n % 4294967296 := by omega
  have g1 : n % 4294967296 < 256 ^ 4 := by omega
  have f0 : 0 ≤ m % 4294967296 := by omega
  have f1 : m % 4294967296 < 256 ^ 4 := by omega
  generalize n % 4294967296 = N at *
  generalize m % 4294967296 = M at *
  have hx1 : BIn w1 p l xs := hx.later hb1
  have hx2 := hx1.drewN nq
  refine (put_good N 4 4 rfl (by omega) g0 g1 _).mono ?_
  rintro e w2 ⟨p2, c2, rfl, h2, hc2, _, hb2⟩
  have hx3 := hx2.later hb2
  go_wp2_with fail
  refine (put_good M 4 4 rfl (by omega) f0 f1 _).mono ?_
  rintro e w3 ⟨p3, c3, rfl, h3, hc3, _, hb3⟩
  go_wp2_with fail
  refine (take_back p2 c2 N 4 4 rfl (by omega) g0 g1 _ (h2.later hb3) hc2).mono ?_
  rintro e w4 ⟨p4, c4, rfl, hb4⟩
  have q1 := ((h2.later hb3).later hb4).str c2
  have q2 := (h3.later hb4).str c3
  have q3 := str_num 4 N M g0 g1 f0 f1
  have q4 : (((4 : Nat) : Int) != 4) = false := rfl
  have hx4 := (hx3.later hb3).later hb4
  have hall := below_then (below_then (below_then hb1 ⟨hb2.os, hb2.tape, hb2.output, hb2.size, hb2.block⟩) hb3) hb4
  have HA : Hid (_) := hall
  have HX : Hid (BIn w4 p l xs) := hx4
  clear hall hb1 hb2 hb3 hb4 hx hx1 hx2 hx3 hx4 h2 h3
  by_cases hl : l < 4
  · have hl' : (l : Int) < 4 := by omega
    go_wp2
    go_ret
    exact ⟨rfl, HA.out⟩
  · have hl' : ¬ (l : Int) < 4 := by omega
    go_wp2_with fail
    clear q1 q2 q3 q4 g0 g1 f0 f1
    refine (take_good p l c xs 4 4 rfl (by omega) _ HX.out hlc (by omega) (by omega)).mono ?_
    rintro e w5 ⟨p5, c5, rfl, h5, hc5, hn5, hb5⟩
    have hbd := worth_bd (xs.take 4) (HX.out.byte.take 4)
    have hdw : digits 4 (worth (xs.take 4)) = xs.take 4 := by
      have := digits_worth (xs.take 4) (HX.out.byte.take 4)
      rw [List.length_take, HX.out.len, Nat.min_eq_left (by omega)] at this
      exact this
    rw [List.length_take, HX.out.len, Nat.min_eq_left (by omega)] at hbd
    have HD : Hid (_) := hdw
    clear hdw
    generalize worth (xs.take 4) = V at *
    go_wp2_with fail
    refine (put_good V 4 4 rfl (by omega) hbd.1 hbd.2 _).mono ?_
    rintro e w6 ⟨p6, c6, rfl, h6, hc6, hn6, hb6⟩
    rw [HD.out] at h6
    have h5' := h5.later hb6
    have hx6 := (HX.out.later hb5).later hb6
    have HB6 : Hid (Below w.heap.size w w6) := below_then (below_then HA.out hb5) hb6
    clear h5 hb5 hb6 hbd HA HX HD
    go_wp2_with fail
    have z1 := hx6.drew.str c
    have z2 := (hx6.later (below_alloc w6 (.cells #[.slice p6 4 c6, .slice p5 (l - 4) c5] 23))).drew.str c
    have HX6 : Hid (BIn w6 p l xs) := hx6
    clear hx6
    refine wp_region_noPanic ?_
    refine wp_region_held_drew (S := (fun w' => Sem.run Try.prog (convert 23 9 (Value.slice p l c)) w' = Result.ok (Value.string (strOfNums xs)) w')) (by kernel_rfl) z1 (fun hHeld => ?_)
    refine wpAnyH_take (i := 0) (v := ?v0) (by simp; rfl) (by kernel_rfl) (by kernel_rfl) (by kernel_rfl) (fun _ _ _ h => h) (Or.inl ⟨by rfl, ?y0⟩) hHeld ?r0
    case y0 => intro w hSw; go_simp; with_reducible rfl
    simp only [Act.put, List.setIfInBounds_toArray, List.set_cons_zero, List.set_cons_succ]
    refine wpAnyH_take (i := 1) (v := ?v1) (by simp; rfl) (by kernel_rfl) (by kernel_rfl) (by kernel_rfl) (fun _ _ _ h => h) (Or.inl ⟨by rfl, ?y1⟩) hHeld ?r1
    case y1 => intro w hSw; go_simp; with_reducible rfl
    simp only [Act.put, List.setIfInBounds_toArray, List.set_cons_zero, List.set_cons_succ]
    refine wpAnyH_take (i := 2) (v := ?v2) (by simp; rfl) (by kernel_rfl) (by kernel_rfl) (by kernel_rfl) (fun _ _ _ h => h) (Or.inl ⟨by rfl, ?y2⟩) hHeld ?r2
    case y2 => intro w hSw; go_simp; with_reducible rfl
    simp only [Act.put, List.setIfInBounds_toArray, List.set_cons_zero, List.set_cons_succ]
    refine wpAnyH_take (i := 3) (v := ?v3) (by simp; rfl) (by kernel_rfl) (by kernel_rfl) (by kernel_rfl) (fun _ _ _ h => h) (Or.inl ⟨by rfl, ?y3⟩) hHeld ?r3
    case y3 => intro w hSw; go_simp; with_reducible rfl
    simp only [Act.put, List.setIfInBounds_toArray, List.set_cons_zero, List.set_cons_succ]
    refine wpAnyH_take (i := 4) (v := ?v4) (by simp; rfl) (by kernel_rfl) (by kernel_rfl) (by kernel_rfl) (fun _ _ _ h => h) (Or.inl ⟨by rfl, ?y4⟩) hHeld ?r4
    case y4 => intro w hSw; go_simp; with_reducible rfl
    simp only [Act.put, List.setIfInBounds_toArray, List.set_cons_zero, List.set_cons_succ]
    refine wpAnyH_take (i := 5) (v := ?v5) (by simp; rfl) (by kernel_rfl) (by kernel_rfl) (by kernel_rfl) (fun _ _ _ h => h) (Or.inl ⟨by rfl, ?y5⟩) hHeld ?r5
    case y5 => intro w hSw; go_simp; with_reducible rfl
    simp only [Act.put, List.setIfInBounds_toArray, List.set_cons_zero, List.set_cons_succ]
    refine wpAnyH_take (i := 6) (v := ?v6) (by simp; rfl) (by kernel_rfl) (by kernel_rfl) (by kernel_rfl) (fun _ _ _ h => h) (Or.inl ⟨by rfl, ?y6⟩) hHeld ?r6
    case y6 => intro w hSw; go_simp; with_reducible rfl
    simp only [Act.put, List.setIfInBounds_toArray, List.set_cons_zero, List.set_cons_succ]
    refine wpAnyH_take (i := 7) (v := ?v7) (by simp; rfl) (by kernel_rfl) (by kernel_rfl) (by kernel_rfl) (fun _ _ _ h => h) (Or.inl ⟨by rfl, ?y7⟩) hHeld ?r7
    case y7 => intro w hSw; go_simp; with_reducible rfl
    simp only [Act.put, List.setIfInBounds_toArray, List.set_cons_zero, List.set_cons_succ]
    refine wpAnyH_take (i := 8) (v := ?v8) (by simp; rfl) (by kernel_rfl) (by kernel_rfl) (by kernel_rfl) (fun _ _ _ h => h) (Or.inl ⟨by rfl, ?y8⟩) hHeld ?r8
    case y8 => intro w hSw; go_simp; with_reducible rfl
    simp only [Act.put, List.setIfInBounds_toArray, List.set_cons_zero, List.set_cons_succ]
    refine wpAnyH_take (i := 12) (v := ?v12) (by simp; rfl) (by kernel_rfl) (by kernel_rfl) (by kernel_rfl) (fun _ _ _ h => h) (Or.inl ⟨by rfl, ?y12⟩) hHeld ?r12
    case y12 => intro w hSw; go_simp; with_reducible rfl
    simp only [Act.put, List.setIfInBounds_toArray, List.set_cons_zero, List.set_cons_succ]
    refine wpAnyH_take (i := 13) (v := ?v13) (by simp; rfl) (by kernel_rfl) (by kernel_rfl) (by kernel_rfl) (fun _ _ _ h => h) (Or.inl ⟨by rfl, ?y13⟩) hHeld ?r13
    case y13 => intro w hSw; go_simp; with_reducible rfl
    simp only [Act.put, List.setIfInBounds_toArray, List.set_cons_zero, List.set_cons_succ]
    refine wpAnyH_ready (rs := [9]) (by kernel_rfl) (by simp) ?_
    refine AllReadyH.cons (by simp; rfl) (fun K hK => ?_) AllReadyH.nil
    go_simp
    refine hK.out _ _ z2 (fun hHeld => ?_)
    clear hK K
    refine wpAnyH_ready (rs := [10]) (by kernel_rfl) (by simp) ?_
    refine AllReadyH.cons (by simp; rfl) (fun K hK => ?_) AllReadyH.nil
    go_simp
    refine (join_back w6 p6 p5 4 l c6 c5 xs h6 h5' hc6 hn6 hc5 hn5 (by omega) (by omega)).mono ?_
    rintro e w7 ⟨p7, c7, rfl, h7, hb7⟩
    have z7 := h7.str c7
    have z8 := (HX6.out.later hb7).str c
    refine hK.out _ _ z8 (fun hHeld => ?_)
    clear hK K
    refine wpAnyH_ready (rs := [11]) (by kernel_rfl) (by simp) ?_
    refine AllReadyH.cons (by simp; rfl) (fun K hK => ?_) AllReadyH.nil
    go_simp
    refine hK.out _ _ z8 (fun hHeld => ?_)
    clear hK K
    refine wpAnyH_take (i := 14) (v := ?v14) (by simp; rfl) (by kernel_rfl) (by kernel_rfl) (by kernel_rfl) (fun _ _ _ h => h) (Or.inl ⟨by rfl, ?y14⟩) hHeld ?r14
    case y14 => intro w hSw; go_simp; with_reducible rfl
    simp only [Act.put, List.setIfInBounds_toArray, List.set_cons_zero, List.set_cons_succ]
    refine wpAnyH_take (i := 15) (v := ?v15) (by simp; rfl) (by kernel_rfl) (by kernel_rfl) (by kernel_rfl) (fun _ _ _ h => h) (Or.inl ⟨by rfl, ?y15⟩) hHeld ?r15
    case y15 => intro w hSw; go_simp; with_reducible rfl
    simp only [Act.put, List.setIfInBounds_toArray, List.set_cons_zero, List.set_cons_succ]
    refine wpAnyH_take (i := 16) (v := ?v16) (by simp; rfl) (by kernel_rfl) (by kernel_rfl) (by kernel_rfl) (fun _ _ _ h => h) (Or.inl ⟨by rfl, ?y16⟩) hHeld ?r16
    case y16 => intro w hSw; go_simp; with_reducible rfl
    simp only [Act.put, List.setIfInBounds_toArray, List.set_cons_zero, List.set_cons_succ]
    refine wpAnyH_done (by kernel_rfl) ?_ _
    refine NoPanic.normal ?_
    go_wp2
    go_ret
    exact ⟨rfl, below_then HB6.out hb7⟩


end Go.Proofs.Ytdfnpapnoedpkaa
