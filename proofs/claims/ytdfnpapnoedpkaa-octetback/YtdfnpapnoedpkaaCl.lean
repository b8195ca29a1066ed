/-
  The statement OctetBack: its walk at each size, 5, 6, 7, 8.
-/
import Derived.Test.YtdfnpapnoedpkaaCj
import Derived.Deep.RegionHeld3
namespace Go.Proofs.Ytdfnpapnoedpkaa
open Go.RowKit

set_option maxHeartbeats 1000000 in
theorem back_5 (n m s : Int) (p : Option Addr) (l c : Nat) (xs : List Int) (w : World) (hn0 : 0 ≤ n) (hn1 : n ≤ 18446744073709551615) (hm0 : 0 ≤ m) (hm1 : m ≤ 18446744073709551615) 
   (hx : BIn w p l xs) (hlc : l ≤ c) (hbig : l ≤ 140737488351232) (t : Int) (ht : s.tmod 8 = t) (ht0 : -8 < t) (ht1 : t < 8) (hj : (t + 8) % 8 = 4) : 
   Calls Try.prog 4 #[.int .u64 n, .int .u64 m, .int .i64 s, .slice p l c] w fun e w' => e = .returned (.bool true) ∧ Below w.heap.size w w' := by
  go_enter Try.func4, Try.ntmps4
  go_wp2_with fail
  refine (awake_any _).mono ?_
  rintro e w1 ⟨rfl, hb1⟩
  go_wp2_with fail
  clear hj ht
  go_quiet (fail)
  go_wp2_with fail
  have g0 : 0 ≤ n % 1099511627776 := by omega
  have g1 : n % 1099511627776 < 256 ^ 5 := by omega
  have f0 : 0 ≤ m % 1099511627776 := by omega
  have f1 : m % 1099511627776 < 256 ^ 5 := by omega
  generalize n % 1099511627776 = N at *
  generalize m % 1099511627776 = M at *
  have hx1 : BIn w1 p l xs := hx.later hb1
  have hx2 := hx1.drewN nq
  refine (put_good N 5 5 rfl (by omega) g0 g1 _).mono ?_
  rintro e w2 ⟨p2, c2, rfl, h2, hc2, _, hb2⟩
  have hx3 := hx2.later hb2
  go_wp2_with fail
  refine (put_good M 5 5 rfl (by omega) f0 f1 _).mono ?_
  rintro e w3 ⟨p3, c3, rfl, h3, hc3, _, hb3⟩
  go_wp2_with fail
  refine (take_back p2 c2 N 5 5 rfl (by omega) g0 g1 _ (h2.later hb3) hc2).mono ?_
  rintro e w4 ⟨p4, c4, rfl, hb4⟩
  have q1 := ((h2.later hb3).later hb4).str c2
  have q2 := (h3.later hb4).str c3
  have q3 := str_num 5 N M g0 g1 f0 f1
  have q4 : (((5 : Nat) : Int) != 5) = false := rfl
  have hx4 := (hx3.later hb3).later hb4
  have hall := below_then (below_then (below_then hb1 ⟨hb2.os, hb2.tape, hb2.output, hb2.size, hb2.block⟩) hb3) hb4
  have HA : Hid (_) := hall
  have HX : Hid (BIn w4 p l xs) := hx4
  clear hall hb1 hb2 hb3 hb4 hx hx1 hx2 hx3 hx4 h2 h3
  by_cases hl : l < 5
  · have hl' : (l : Int) < 5 := by omega
    go_wp2
    go_ret
    exact ⟨rfl, HA.out⟩
  · have hl' : ¬ (l : Int) < 5 := by omega
    go_wp2_with fail
    clear q1 q2 q3 q4 g0 g1 f0 f1
    refine (take_good p l c xs 5 5 rfl (by omega) _ HX.out hlc (by omega) (by omega)).mono ?_
    rintro e w5 ⟨p5, c5, rfl, h5, hc5, hn5, hb5⟩
    have hbd := worth_bd (xs.take 5) (HX.out.byte.take 5)
    have hdw : digits 5 (worth (xs.take 5)) = xs.take 5 := by
      have := digits_worth (xs.take 5) (HX.out.byte.take 5)
      rw [List.length_take, HX.out.len, Nat.min_eq_left (by omega)] at this
      exact this
    rw [List.length_take, HX.out.len, Nat.min_eq_left (by omega)] at hbd
    have HD : Hid (_) := hdw
    clear hdw
    generalize worth (xs.take 5) = V at *
    go_wp2_with fail
    refine (put_good V 5 5 rfl (by omega) hbd.1 hbd.2 _).mono ?_
    rintro e w6 ⟨p6, c6, rfl, h6, hc6, hn6, hb6⟩
    rw [HD.out] at h6
    have h5' := h5.later hb6
    have hx6 := (HX.out.later hb5).later hb6
    have HB6 : Hid (Below w.heap.size w w6) := below_then (below_then HA.out hb5) hb6
    clear h5 hb5 hb6 hbd HA HX HD
    go_wp2_with fail
    have z1 := hx6.drew.str c
    have z2 := (hx6.later (below_alloc w6 (.cells #[.slice p6 5 c6, .slice p5 (l - 5) c5] 23))).drew.str c
    have HX6 : Hid (BIn w6 p l xs) := hx6
    clear hx6
    refine wp_region_noPanic ?_
    refine wp_region_held_drew (S := (fun w' => Sem.run Try.prog (convert 23 9 (Value.slice p l c)) w' = Result.ok (Value.string (strOfNums xs)) w')) (by kernel_rfl) z1 (fun hHeld => ?_)
    refine wpAnyH_take (i := 0) (v := ?v0) (by simp; rfl) (by kernel_rfl) (by kernel_rfl) (by kernel_rfl) (fun _ _ _ h => h) (Or.inl ⟨by rfl, ?y0⟩) hHeld ?r0
    case y0 => intro w hSw; go_simp; with_reducible rfl
    simp only [Act.put, List.setIfInBounds_toArray, List.set_cons_zero, List.set_cons_succ]
    refine wpAnyH_take (i := 1) (v := ?v1) (by simp; rfl) (by kernel_rfl) (by kernel_rfl) (by kernel_rfl) (fun _ _ _ h => h) (Or.inl ⟨by rfl, ?y1⟩) hHeld ?r1
    case y1 => intro w hSw; go_simp; with_reducible rfl
    simp only [Act.put, List.setIfInBounds_toArray, List.set_cons_zero, List.set_cons_succ]
    refine wpAnyH_take (i := 2) (v := ?v2) (by simp; rfl) (by kernel_rfl) (by kernel_rfl) (by kernel_rfl) (fun _ _ _ h => h) (Or.inl ⟨by rfl, ?y2⟩) hHeld ?r2
    case y2 => intro w hSw; go_simp; with_reducible rfl
    simp only [Act.put, List.setIfInBounds_toArray, List.set_cons_zero, List.set_cons_succ]
    refine wpAnyH_take (i := 3) (v := ?v3) (by simp; rfl) (by kernel_rfl) (by kernel_rfl) (by kernel_rfl) (fun _ _ _ h => h) (Or.inl ⟨by rfl, ?y3⟩) hHeld ?r3
    case y3 => intro w hSw; go_simp; with_reducible rfl
    simp only [Act.put, List.setIfInBounds_toArray, List.set_cons_zero, List.set_cons_succ]
    refine wpAnyH_take (i := 4) (v := ?v4) (by simp; rfl) (by kernel_rfl) (by kernel_rfl) (by kernel_rfl) (fun _ _ _ h => h) (Or.inl ⟨by rfl, ?y4⟩) hHeld ?r4
    case y4 => intro w hSw; go_simp; with_reducible rfl
    simp only [Act.put, List.setIfInBounds_toArray, List.set_cons_zero, List.set_cons_succ]
    refine wpAnyH_take (i := 5) (v := ?v5) (by simp; rfl) (by kernel_rfl) (by kernel_rfl) (by kernel_rfl) (fun _ _ _ h => h) (Or.inl ⟨by rfl, ?y5⟩) hHeld ?r5
    case y5 => intro w hSw; go_simp; with_reducible rfl
    simp only [Act.put, List.setIfInBounds_toArray, List.set_cons_zero, List.set_cons_succ]
    refine wpAnyH_take (i := 6) (v := ?v6) (by simp; rfl) (by kernel_rfl) (by kernel_rfl) (by kernel_rfl) (fun _ _ _ h => h) (Or.inl ⟨by rfl, ?y6⟩) hHeld ?r6
    case y6 => intro w hSw; go_simp; with_reducible rfl
    simp only [Act.put, List.setIfInBounds_toArray, List.set_cons_zero, List.set_cons_succ]
    refine wpAnyH_take (i := 7) (v := ?v7) (by simp; rfl) (by kernel_rfl) (by kernel_rfl) (by kernel_rfl) (fun _ _ _ h => h) (Or.inl ⟨by rfl, ?y7⟩) hHeld ?r7
    case y7 => intro w hSw; go_simp; with_reducible rfl
    simp only [Act.put, List.setIfInBounds_toArray, List.set_cons_zero, List.set_cons_succ]
    refine wpAnyH_take (i := 8) (v := ?v8) (by simp; rfl) (by kernel_rfl) (by kernel_rfl) (by kernel_rfl) (fun _ _ _ h => h) (Or.inl ⟨by rfl, ?y8⟩) hHeld ?r8
    case y8 => intro w hSw; go_simp; with_reducible rfl
    simp only [Act.put, List.setIfInBounds_toArray, List.set_cons_zero, List.set_cons_succ]
    refine wpAnyH_take (i := 12) (v := ?v12) (by simp; rfl) (by kernel_rfl) (by kernel_rfl) (by kernel_rfl) (fun _ _ _ h => h) (Or.inl ⟨by rfl, ?y12⟩) hHeld ?r12
    case y12 => intro w hSw; go_simp; with_reducible rfl
    simp only [Act.put, List.setIfInBounds_toArray, List.set_cons_zero, List.set_cons_succ]
    refine wpAnyH_take (i := 13) (v := ?v13) (by simp; rfl) (by kernel_rfl) (by kernel_rfl) (by kernel_rfl) (fun _ _ _ h => h) (Or.inl ⟨by rfl, ?y13⟩) hHeld ?r13
    case y13 => intro w hSw; go_simp; with_reducible rfl
    simp only [Act.put, List.setIfInBounds_toArray, List.set_cons_zero, List.set_cons_succ]
    refine wpAnyH_ready (rs := [9]) (by kernel_rfl) (by simp) ?_
    refine AllReadyH.cons (by simp; rfl) (fun K hK => ?_) AllReadyH.nil
    go_simp
    refine hK.out _ _ z2 (fun hHeld => ?_)
    clear hK K
    refine wpAnyH_ready (rs := [10]) (by kernel_rfl) (by simp) ?_
    refine AllReadyH.cons (by simp; rfl) (fun K hK => ?_) AllReadyH.nil
    go_simp
    refine (join_back w6 p6 p5 5 l c6 c5 xs h6 h5' hc6 hn6 hc5 hn5 (by omega) (by omega)).mono ?_
    rintro e w7 ⟨p7, c7, rfl, h7, hb7⟩
    have z7 := h7.str c7
    have z8 := (HX6.out.later hb7).str c
    refine hK.out _ _ z8 (fun hHeld => ?_)
    clear hK K
    refine wpAnyH_ready (rs := [11]) (by kernel_rfl) (by simp) ?_
    refine AllReadyH.cons (by simp; rfl) (fun K hK => ?_) AllReadyH.nil
    go_simp
    refine hK.out _ _ z8 (fun hHeld => ?_)
    clear hK K
    refine wpAnyH_take (i := 14) (v := ?v14) (by simp; rfl) (by kernel_rfl) (by kernel_rfl) (by kernel_rfl) (fun _ _ _ h => h) (Or.inl ⟨by rfl, ?y14⟩) hHeld ?r14
    case y14 => intro w hSw; go_simp; with_reducible rfl
    simp only [Act.put, List.setIfInBounds_toArray, List.set_cons_zero, List.set_cons_succ]
    refine wpAnyH_take (i := 15) (v := ?v15) (by simp; rfl) (by kernel_rfl) (by kernel_rfl) (by kernel_rfl) (fun _ _ _ h => h) (Or.inl ⟨by rfl, ?y15⟩) hHeld ?r15
    case y15 => intro w hSw; go_simp; with_reducible rfl
    simp only [Act.put, List.setIfInBounds_toArray, List.set_cons_zero, List.set_cons_succ]
    refine wpAnyH_take (i := 16) (v := ?v16) (by simp; rfl) (by kernel_rfl) (by kernel_rfl) (by kernel_rfl) (fun _ _ _ h => h) (Or.inl ⟨by rfl, ?y16⟩) hHeld ?r16
    case y16 => intro w hSw; go_simp; with_reducible rfl
    simp only [Act.put, List.setIfInBounds_toArray, List.set_cons_zero, List.set_cons_succ]
    refine wpAnyH_done (by kernel_rfl) ?_ _
    refine NoPanic.normal ?_
    go_wp2
    go_ret
    exact ⟨rfl, below_then HB6.out hb7⟩


set_option maxHeartbeats 1000000 in
theorem back_6 (n m s : Int) (p : Option Addr) (l c : Nat) (xs : List Int) (w : World) (hn0 : 0 ≤ n) (hn1 : n ≤ 18446744073709551615) (hm0 : 0 ≤ m) (hm1 : m ≤ 18446744073709551615) 
   (hx : BIn w p l xs) (hlc : l ≤ c) (hbig : l ≤ 140737488351232) (t : Int) (ht : s.tmod 8 = t) (ht0 : -8 < t) (ht1 : t < 8) (hj : (t + 8) % 8 = 5) : 
   Calls Try.prog 4 #[.int .u64 n, .int .u64 m, .int .i64 s, .slice p l c] w fun e w' => e = .returned (.bool true) ∧ Below w.heap.size w w' := by
  go_enter Try.func4, Try.ntmps4
  go_wp2_with fail
  refine (awake_any _).mono ?_
  rintro e w1 ⟨rfl, hb1⟩
  go_wp2_with fail
  clear hj ht
  go_quiet (fail)
  go_wp2_with fail
  have g0 : 0 ≤ n % 281474976710656 := by omega
  have g1 : n % 281474976710656 < 256 ^ 6 := by omega
  have f0 : 0 ≤ m % 281474976710656 := by omega
  have f1 : m % 281474976710656 < 256 ^ 6 := by omega
  generalize n % 281474976710656 = N at *
  generalize m % 281474976710656 = M at *
  have hx1 : BIn w1 p l xs := hx.later hb1
  have hx2 := hx1.drewN nq
  refine (put_good N 6 6 rfl (by omega) g0 g1 _).mono ?_
  rintro e w2 ⟨p2, c2, rfl, h2, hc2, _, hb2⟩
  have hx3 := hx2.later hb2
  go_wp2_with fail
  refine (put_good M 6 6 rfl (by omega) f0 f1 _).mono ?_
  rintro e w3 ⟨p3, c3, rfl, h3, hc3, _, hb3⟩
  go_wp2_with fail
  refine (take_back p2 c2 N 6 6 rfl (by omega) g0 g1 _ (h2.later hb3) hc2).mono ?_
  rintro e w4 ⟨p4, c4, rfl, hb4⟩
  have q1 := ((h2.later hb3).later hb4).str c2
  have q2 := (h3.later hb4).str c3
  have q3 := str_num 6 N M g0 g1 f0 f1
  have q4 : (((6 : Nat) : Int) != 6) = false := rfl
  have hx4 := (hx3.later hb3).later hb4
  have hall := below_then (below_then (below_then hb1 ⟨hb2.os, hb2.tape, hb2.output, hb2.size, hb2.block⟩) hb3) hb4
  have HA : Hid (_) := hall
  have HX : Hid (BIn w4 p l xs) := hx4
  clear hall hb1 hb2 hb3 hb4 hx hx1 hx2 hx3 hx4 h2 h3
  by_cases hl : l < 6
  · have hl' : (l : Int) < 6 := by omega
    go_wp2
    go_ret
    exact ⟨rfl, HA.out⟩
  · have hl' : ¬ (l : Int) < 6 := by omega
    go_wp2_with fail
    clear q1 q2 q3 q4 g0 g1 f0 f1
    refine (take_good p l c xs 6 6 rfl (by omega) _ HX.out hlc (by omega) (by omega)).mono ?_
    rintro e w5 ⟨p5, c5, rfl, h5, hc5, hn5, hb5⟩
    have hbd := worth_bd (xs.take 6) (HX.out.byte.take 6)
    have hdw : digits 6 (worth (xs.take 6)) = xs.take 6 := by
      have := digits_worth (xs.take 6) (HX.out.byte.take 6)
      rw [List.length_take, HX.out.len, Nat.min_eq_left (by omega)] at this
      exact this
    rw [List.length_take, HX.out.len, Nat.min_eq_left (by omega)] at hbd
    have HD : Hid (_) := hdw
    clear hdw
    generalize worth (xs.take 6) = V at *
    go_wp2_with fail
    refine (put_good V 6 6 rfl (by omega) hbd.1 hbd.2 _).mono ?_
    rintro e w6 ⟨p6, c6, rfl, h6, hc6, hn6, hb6⟩
    rw [HD.out] at h6
    have h5' := h5.later hb6
    have hx6 := (HX.out.later hb5).later hb6
    have HB6 : Hid (Below w.heap.size w w6) := below_then (below_then HA.out hb5) hb6
    clear h5 hb5 hb6 hbd HA HX HD
    go_wp2_with fail
    have z1 := hx6.drew.str c
    have z2 := (hx6.later (below_alloc w6 (.cells #[.slice p6 6 c6, .slice p5 (l - 6) c5] 23))).drew.str c
    have HX6 : Hid (BIn w6 p l xs) := hx6
    clear hx6
    refine wp_region_noPanic ?_
    refine wp_region_held_drew (S := (fun w' => Sem.run Try.prog (convert 23 9 (Value.slice p l c)) w' = Result.ok (Value.string (strOfNums xs)) w')) (by kernel_rfl) z1 (fun hHeld => ?_)
    refine wpAnyH_take (i := 0) (v := ?v0) (by simp; rfl) (by kernel_rfl) (by kernel_rfl) (by kernel_rfl) (fun _ _ _ h => h) (Or.inl ⟨by rfl, ?y0⟩) hHeld ?r0
    case y0 => intro w hSw; go_simp; with_reducible rfl
    simp only [Act.put, List.setIfInBounds_toArray, List.set_cons_zero, List.set_cons_succ]
    refine wpAnyH_take (i := 1) (v := ?v1) (by simp; rfl) (by kernel_rfl) (by kernel_rfl) (by kernel_rfl) (fun _ _ _ h => h) (Or.inl ⟨by rfl, ?y1⟩) hHeld ?r1
    case y1 => intro w hSw; go_simp; with_reducible rfl
    simp only [Act.put, List.setIfInBounds_toArray, List.set_cons_zero, List.set_cons_succ]
    refine wpAnyH_take (i := 2) (v := ?v2) (by simp; rfl) (by kernel_rfl) (by kernel_rfl) (by kernel_rfl) (fun _ _ _ h => h) (Or.inl ⟨by rfl, ?y2⟩) hHeld ?r2
    case y2 => intro w hSw; go_simp; with_reducible rfl
    simp only [Act.put, List.setIfInBounds_toArray, List.set_cons_zero, List.set_cons_succ]
    refine wpAnyH_take (i := 3) (v := ?v3) (by simp; rfl) (by kernel_rfl) (by kernel_rfl) (by kernel_rfl) (fun _ _ _ h => h) (Or.inl ⟨by rfl, ?y3⟩) hHeld ?r3
    case y3 => intro w hSw; go_simp; with_reducible rfl
    simp only [Act.put, List.setIfInBounds_toArray, List.set_cons_zero, List.set_cons_succ]
    refine wpAnyH_take (i := 4) (v := ?v4) (by simp; rfl) (by kernel_rfl) (by kernel_rfl) (by kernel_rfl) (fun _ _ _ h => h) (Or.inl ⟨by rfl, ?y4⟩) hHeld ?r4
    case y4 => intro w hSw; go_simp; with_reducible rfl
    simp only [Act.put, List.setIfInBounds_toArray, List.set_cons_zero, List.set_cons_succ]
    refine wpAnyH_take (i := 5) (v := ?v5) (by simp; rfl) (by kernel_rfl) (by kernel_rfl) (by kernel_rfl) (fun _ _ _ h => h) (Or.inl ⟨by rfl, ?y5⟩) hHeld ?r5
    case y5 => intro w hSw; go_simp; with_reducible rfl
    simp only [Act.put, List.setIfInBounds_toArray, List.set_cons_zero, List.set_cons_succ]
    refine wpAnyH_take (i := 6) (v := ?v6) (by simp; rfl) (by kernel_rfl) (by kernel_rfl) (by kernel_rfl) (fun _ _ _ h => h) (Or.inl ⟨by rfl, ?y6⟩) hHeld ?r6
    case y6 => intro w hSw; go_simp; with_reducible rfl
    simp only [Act.put, List.setIfInBounds_toArray, List.set_cons_zero, List.set_cons_succ]
    refine wpAnyH_take (i := 7) (v := ?v7) (by simp; rfl) (by kernel_rfl) (by kernel_rfl) (by kernel_rfl) (fun _ _ _ h => h) (Or.inl ⟨by rfl, ?y7⟩) hHeld ?r7
    case y7 => intro w hSw; go_simp; with_reducible rfl
    simp only [Act.put, List.setIfInBounds_toArray, List.set_cons_zero, List.set_cons_succ]
    refine wpAnyH_take (i := 8) (v := ?v8) (by simp; rfl) (by kernel_rfl) (by kernel_rfl) (by kernel_rfl) (fun _ _ _ h => h) (Or.inl ⟨by rfl, ?y8⟩) hHeld ?r8
    case y8 => intro w hSw; go_simp; with_reducible rfl
    simp only [Act.put, List.setIfInBounds_toArray, List.set_cons_zero, List.set_cons_succ]
    refine wpAnyH_take (i := 12) (v := ?v12) (by simp; rfl) (by kernel_rfl) (by kernel_rfl) (by kernel_rfl) (fun _ _ _ h => h) (Or.inl ⟨by rfl, ?y12⟩) hHeld ?r12
    case y12 => intro w hSw; go_simp; with_reducible rfl
    simp only [Act.put, List.setIfInBounds_toArray, List.set_cons_zero, List.set_cons_succ]
    refine wpAnyH_take (i := 13) (v := ?v13) (by simp; rfl) (by kernel_rfl) (by kernel_rfl) (by kernel_rfl) (fun _ _ _ h => h) (Or.inl ⟨by rfl, ?y13⟩) hHeld ?r13
    case y13 => intro w hSw; go_simp; with_reducible rfl
    simp only [Act.put, List.setIfInBounds_toArray, List.set_cons_zero, List.set_cons_succ]
    refine wpAnyH_ready (rs := [9]) (by kernel_rfl) (by simp) ?_
    refine AllReadyH.cons (by simp; rfl) (fun K hK => ?_) AllReadyH.nil
    go_simp
    refine hK.out _ _ z2 (fun hHeld => ?_)
    clear hK K
    refine wpAnyH_ready (rs := [10]) (by kernel_rfl) (by simp) ?_
    refine AllReadyH.cons (by simp; rfl) (fun K hK => ?_) AllReadyH.nil
    go_simp
    refine (join_back w6 p6 p5 6 l c6 c5 xs h6 h5' hc6 hn6 hc5 hn5 (by omega) (by omega)).mono ?_
    rintro e w7 ⟨p7, c7, rfl, h7, hb7⟩
    have z7 := h7.str c7
    have z8 := (HX6.out.later hb7).str c
    refine hK.out _ _ z8 (fun hHeld => ?_)
    clear hK K
    refine wpAnyH_ready (rs := [11]) (by kernel_rfl) (by simp) ?_
    refine AllReadyH.cons (by simp; rfl) (fun K hK => ?_) AllReadyH.nil
    go_simp
    refine hK.out _ _ z8 (fun hHeld => ?_)
    clear hK K
    refine wpAnyH_take (i := 14) (v := ?v14) (by simp; rfl) (by kernel_rfl) (by kernel_rfl) (by kernel_rfl) (fun _ _ _ h => h) (Or.inl ⟨by rfl, ?y14⟩) hHeld ?r14
    case y14 => intro w hSw; go_simp; with_reducible rfl
    simp only [Act.put, List.setIfInBounds_toArray, List.set_cons_zero, List.set_cons_succ]
    refine wpAnyH_take (i := 15) (v := ?v15) (by simp; rfl) (by kernel_rfl) (by kernel_rfl) (by kernel_rfl) (fun _ _ _ h => h) (Or.inl ⟨by rfl, ?y15⟩) hHeld ?r15
    case y15 => intro w hSw; go_simp; with_reducible rfl
    simp only [Act.put, List.setIfInBounds_toArray, List.set_cons_zero, List.set_cons_succ]
    refine wpAnyH_take (i := 16) (v := ?v16) (by simp; rfl) (by kernel_rfl) (by kernel_rfl) (by kernel_rfl) (fun _ _ _ h => h) (Or.inl ⟨by rfl, ?y16⟩) hHeld ?r16
    case y16 => intro w hSw; go_simp; with_reducible rfl
    simp only [Act.put, List.setIfInBounds_toArray, List.set_cons_zero, List.set_cons_succ]
    refine wpAnyH_done (by kernel_rfl) ?_ _
    refine NoPanic.normal ?_
    go_wp2
    go_ret
    exact ⟨rfl, below_then HB6.out hb7⟩


set_option maxHeartbeats 1000000 in
theorem back_7 (n m s : Int) (p : Option Addr) (l c : Nat) (xs : List Int) (w : World) (hn0 : 0 ≤ n) (hn1 : n ≤ 18446744073709551615) (hm0 : 0 ≤ m) (hm1 : m ≤ 18446744073709551615) 
   (hx : BIn w p l xs) (hlc : l ≤ c) (hbig : l ≤ 140737488351232) (t : Int) (ht : s.tmod 8 = t) (ht0 : -8 < t) (ht1 : t < 8) (hj : (t + 8) % 8 = 6) : 
   Calls Try.prog 4 #[.int .u64 n, .int .u64 m, .int .i64 s, .slice p l c] w fun e w' => e = .returned (.bool true) ∧ Below w.heap.size w w' := by
  go_enter Try.func4, Try.ntmps4
  go_wp2_with fail
  refine (awake_any _).mono ?_
  rintro e w1 ⟨rfl, hb1⟩
  go_wp2_with fail
  clear hj ht
  go_quiet (fail)
  go_wp2_with fail
  have g0 : 0 ≤ n % 72057594037927936 := by omega
  have g1 : n % 72057594037927936 < 256 ^ 7 := by omega
  have f0 : 0 ≤ m % 72057594037927936 := by omega
  have f1 : m % 72057594037927936 < 256 ^ 7 := by omega
  generalize n % 72057594037927936 = N at *
  generalize m % 72057594037927936 = M at *
  have hx1 : BIn w1 p l xs := hx.later hb1
  have hx2 := hx1.drewN nq
  refine (put_good N 7 7 rfl (by omega) g0 g1 _).mono ?_
  rintro e w2 ⟨p2, c2, rfl, h2, hc2, _, hb2⟩
  have hx3 := hx2.later hb2
  go_wp2_with fail
  refine (put_good M 7 7 rfl (by omega) f0 f1 _).mono ?_
  rintro e w3 ⟨p3, c3, rfl, h3, hc3, _, hb3⟩
  go_wp2_with fail
  refine (take_back p2 c2 N 7 7 rfl (by omega) g0 g1 _ (h2.later hb3) hc2).mono ?_
  rintro e w4 ⟨p4, c4, rfl, hb4⟩
  have q1 := ((h2.later hb3).later hb4).str c2
  have q2 := (h3.later hb4).str c3
  have q3 := str_num 7 N M g0 g1 f0 f1
  have q4 : (((7 : Nat) : Int) != 7) = false := rfl
  have hx4 := (hx3.later hb3).later hb4
  have hall := below_then (below_then (below_then hb1 ⟨hb2.os, hb2.tape, hb2.output, hb2.size, hb2.block⟩) hb3) hb4
  have HA : Hid (_) := hall
  have HX : Hid (BIn w4 p l xs) := hx4
  clear hall hb1 hb2 hb3 hb4 hx hx1 hx2 hx3 hx4 h2 h3
  by_cases hl : l < 7
  · have hl' : (l : Int) < 7 := by omega
    go_wp2
    go_ret
    exact ⟨rfl, HA.out⟩
  · have hl' : ¬ (l : Int) < 7 := by omega
    go_wp2_with fail
    clear q1 q2 q3 q4 g0 g1 f0 f1
    refine (take_good p l c xs 7 7 rfl (by omega) _ HX.out hlc (by omega) (by omega)).mono ?_
    rintro e w5 ⟨p5, c5, rfl, h5, hc5, hn5, hb5⟩
    have hbd := worth_bd (xs.take 7) (HX.out.byte.take 7)
    have hdw : digits 7 (worth (xs.take 7)) = xs.take 7 := by
      have := digits_worth (xs.take 7) (HX.out.byte.take 7)
      rw [List.length_take, HX.out.len, Nat.min_eq_left (by omega)] at this
      exact this
    rw [List.length_take, HX.out.len, Nat.min_eq_left (by omega)] at hbd
    have HD : Hid (_) := hdw
    clear hdw
    generalize worth (xs.take 7) = V at *
    go_wp2_with fail
    refine (put_good V 7 7 rfl (by omega) hbd.1 hbd.2 _).mono ?_
    rintro e w6 ⟨p6, c6, rfl, h6, hc6, hn6, hb6⟩
    rw [HD.out] at h6
    have h5' := h5.later hb6
    have hx6 := (HX.out.later hb5).later hb6
    have HB6 : Hid (Below w.heap.size w w6) := below_then (below_then HA.out hb5) hb6
    clear h5 hb5 hb6 hbd HA HX HD
    go_wp2_with fail
    have z1 := hx6.drew.str c
    have z2 := (hx6.later (below_alloc w6 (.cells #[.slice p6 7 c6, .slice p5 (l - 7) c5] 23))).drew.str c
    have HX6 : Hid (BIn w6 p l xs) := hx6
    clear hx6
    refine wp_region_noPanic ?_
    refine wp_region_held_drew (S := (fun w' => Sem.run Try.prog (convert 23 9 (Value.slice p l c)) w' = Result.ok (Value.string (strOfNums xs)) w')) (by kernel_rfl) z1 (fun hHeld => ?_)
    refine wpAnyH_take (i := 0) (v := ?v0) (by simp; rfl) (by kernel_rfl) (by kernel_rfl) (by kernel_rfl) (fun _ _ _ h => h) (Or.inl ⟨by rfl, ?y0⟩) hHeld ?r0
    case y0 => intro w hSw; go_simp; with_reducible rfl
    simp only [Act.put, List.setIfInBounds_toArray, List.set_cons_zero, List.set_cons_succ]
    refine wpAnyH_take (i := 1) (v := ?v1) (by simp; rfl) (by kernel_rfl) (by kernel_rfl) (by kernel_rfl) (fun _ _ _ h => h) (Or.inl ⟨by rfl, ?y1⟩) hHeld ?r1
    case y1 => intro w hSw; go_simp; with_reducible rfl
    simp only [Act.put, List.setIfInBounds_toArray, List.set_cons_zero, List.set_cons_succ]
    refine wpAnyH_take (i := 2) (v := ?v2) (by simp; rfl) (by kernel_rfl) (by kernel_rfl) (by kernel_rfl) (fun _ _ _ h => h) (Or.inl ⟨by rfl, ?y2⟩) hHeld ?r2
    case y2 => intro w hSw; go_simp; with_reducible rfl
    simp only [Act.put, List.setIfInBounds_toArray, List.set_cons_zero, List.set_cons_succ]
    refine wpAnyH_take (i := 3) (v := ?v3) (by simp; rfl) (by kernel_rfl) (by kernel_rfl) (by kernel_rfl) (fun _ _ _ h => h) (Or.inl ⟨by rfl, ?y3⟩) hHeld ?r3
    case y3 => intro w hSw; go_simp; with_reducible rfl
    simp only [Act.put, List.setIfInBounds_toArray, List.set_cons_zero, List.set_cons_succ]
    refine wpAnyH_take (i := 4) (v := ?v4) (by simp; rfl) (by kernel_rfl) (by kernel_rfl) (by kernel_rfl) (fun _ _ _ h => h) (Or.inl ⟨by rfl, ?y4⟩) hHeld ?r4
    case y4 => intro w hSw; go_simp; with_reducible rfl
    simp only [Act.put, List.setIfInBounds_toArray, List.set_cons_zero, List.set_cons_succ]
    refine wpAnyH_take (i := 5) (v := ?v5) (by simp; rfl) (by kernel_rfl) (by kernel_rfl) (by kernel_rfl) (fun _ _ _ h => h) (Or.inl ⟨by rfl, ?y5⟩) hHeld ?r5
    case y5 => intro w hSw; go_simp; with_reducible rfl
    simp only [Act.put, List.setIfInBounds_toArray, List.set_cons_zero, List.set_cons_succ]
    refine wpAnyH_take (i := 6) (v := ?v6) (by simp; rfl) (by kernel_rfl) (by kernel_rfl) (by kernel_rfl) (fun _ _ _ h => h) (Or.inl ⟨by rfl, ?y6⟩) hHeld ?r6
    case y6 => intro w hSw; go_simp; with_reducible rfl
    simp only [Act.put, List.setIfInBounds_toArray, List.set_cons_zero, List.set_cons_succ]
    refine wpAnyH_take (i := 7) (v := ?v7) (by simp; rfl) (by kernel_rfl) (by kernel_rfl) (by kernel_rfl) (fun _ _ _ h => h) (Or.inl ⟨by rfl, ?y7⟩) hHeld ?r7
    case y7 => intro w hSw; go_simp; with_reducible rfl
    simp only [Act.put, List.setIfInBounds_toArray, List.set_cons_zero, List.set_cons_succ]
    refine wpAnyH_take (i := 8) (v := ?v8) (by simp; rfl) (by kernel_rfl) (by kernel_rfl) (by kernel_rfl) (fun _ _ _ h => h) (Or.inl ⟨by rfl, ?y8⟩) hHeld ?r8
    case y8 => intro w hSw; go_simp; with_reducible rfl
    simp only [Act.put, List.setIfInBounds_toArray, List.set_cons_zero, List.set_cons_succ]
    refine wpAnyH_take (i := 12) (v := ?v12) (by simp; rfl) (by kernel_rfl) (by kernel_rfl) (by kernel_rfl) (fun _ _ _ h => h) (Or.inl ⟨by rfl, ?y12⟩) hHeld ?r12
    case y12 => intro w hSw; go_simp; with_reducible rfl
    simp only [Act.put, List.setIfInBounds_toArray, List.set_cons_zero, List.set_cons_succ]
    refine wpAnyH_take (i := 13) (v := ?v13) (by simp; rfl) (by kernel_rfl) (by kernel_rfl) (by kernel_rfl) (fun _ _ _ h => h) (Or.inl ⟨by rfl, ?y13⟩) hHeld ?r13
    case y13 => intro w hSw; go_simp; with_reducible rfl
    simp only [Act.put, List.setIfInBounds_toArray, List.set_cons_zero, List.set_cons_succ]
    refine wpAnyH_ready (rs := [9]) (by kernel_rfl) (by simp) ?_
    refine AllReadyH.cons (by simp; rfl) (fun K hK => ?_) AllReadyH.nil
    go_simp
    refine hK.out _ _ z2 (fun hHeld => ?_)
    clear hK K
    refine wpAnyH_ready (rs := [10]) (by kernel_rfl) (by simp) ?_
    refine AllReadyH.cons (by simp; rfl) (fun K hK => ?_) AllReadyH.nil
    go_simp
    refine (join_back w6 p6 p5 7 l c6 c5 xs h6 h5' hc6 hn6 hc5 hn5 (by omega) (by omega)).mono ?_
    rintro e w7 ⟨p7, c7, rfl, h7, hb7⟩
    have z7 := h7.str c7
    have z8 := (HX6.out.later hb7).str c
    refine hK.out _ _ z8 (fun hHeld => ?_)
    clear hK K
    refine wpAnyH_ready (rs := [11]) (by kernel_rfl) (by simp) ?_
    refine AllReadyH.cons (by simp; rfl) (fun K hK => ?_) AllReadyH.nil
    go_simp
    refine hK.out _ _ z8 (fun hHeld => ?_)
    clear hK K
    refine wpAnyH_take (i := 14) (v := ?v14) (by simp; rfl) (by kernel_rfl) (by kernel_rfl) (by kernel_rfl) (fun _ _ _ h => h) (Or.inl ⟨by rfl, ?y14⟩) hHeld ?r14
    case y14 => intro w hSw; go_simp; with_reducible rfl
    simp only [Act.put, List.setIfInBounds_toArray, List.set_cons_zero, List.set_cons_succ]
    refine wpAnyH_take (i := 15) (v := ?v15) (by simp; rfl) (by kernel_rfl) (by kernel_rfl) (by kernel_rfl) (fun _ _ _ h => h) (Or.inl ⟨by rfl, ?y15⟩) hHeld ?r15
    case y15 => intro w hSw; go_simp; with_reducible rfl
    simp only [Act.put, List.setIfInBounds_toArray, List.set_cons_zero, List.set_cons_succ]
    refine wpAnyH_take (i := 16) (v := ?v16) (by simp; rfl) (by kernel_rfl) (by kernel_rfl) (by kernel_rfl) (fun _ _ _ h => h) (Or.inl ⟨by rfl, ?y16⟩) hHeld ?r16
    case y16 => intro w hSw; go_simp; with_reducible rfl
    simp only [Act.put, List.setIfInBounds_toArray, List.set_cons_zero, List.set_cons_succ]
    refine wpAnyH_done (by kernel_rfl) ?_ _
    refine NoPanic.normal ?_
    go_wp2
    go_ret
    exact ⟨rfl, below_then HB6.out hb7⟩


set_option maxHeartbeats 1000000 in
theorem back_8 (N M s : Int) (p : Option Addr) (l c : Nat) (xs : List Int) (w : World) (hn0 : 0 ≤ N) (hn1 : N ≤ 18446744073709551615) (hm0 : 0 ≤ M) (hm1 : M ≤ 18446744073709551615) 
   (hx : BIn w p l xs) (hlc : l ≤ c) (hbig : l ≤ 140737488351232) (t : Int) (ht : s.tmod 8 = t) (ht0 : -8 < t) (ht1 : t < 8) (hj : (t + 8) % 8 = 7) : 
   Calls Try.prog 4 #[.int .u64 N, .int .u64 M, .int .i64 s, .slice p l c] w fun e w' => e = .returned (.bool true) ∧ Below w.heap.size w w' := by
  go_enter Try.func4, Try.ntmps4
  go_wp2_with fail
  refine (awake_any _).mono ?_
  rintro e w1 ⟨rfl, hb1⟩
  go_wp2_with fail
  clear hj ht
  have g0 : 0 ≤ N := hn0
  have g1 : N < 256 ^ 8 := by omega
  have f0 : 0 ≤ M := hm0
  have f1 : M < 256 ^ 8 := by omega
  clear hn1 hn0
  clear hm1 hm0
  have hx1 : BIn w1 p l xs := hx.later hb1
  have hx2 := hx1
  refine (put_good N 8 8 rfl (by omega) g0 g1 _).mono ?_
  rintro e w2 ⟨p2, c2, rfl, h2, hc2, _, hb2⟩
  have hx3 := hx2.later hb2
  go_wp2_with fail
  refine (put_good M 8 8 rfl (by omega) f0 f1 _).mono ?_
  rintro e w3 ⟨p3, c3, rfl, h3, hc3, _, hb3⟩
  go_wp2_with fail
  refine (take_back p2 c2 N 8 8 rfl (by omega) g0 g1 _ (h2.later hb3) hc2).mono ?_
  rintro e w4 ⟨p4, c4, rfl, hb4⟩
  have q1 := ((h2.later hb3).later hb4).str c2
  have q2 := (h3.later hb4).str c3
  have q3 := str_num 8 N M g0 g1 f0 f1
  have q4 : (((8 : Nat) : Int) != 8) = false := rfl
  have hx4 := (hx3.later hb3).later hb4
  have hall := below_then (below_then (below_then hb1 ⟨hb2.os, hb2.tape, hb2.output, hb2.size, hb2.block⟩) hb3) hb4
  have HA : Hid (_) := hall
  have HX : Hid (BIn w4 p l xs) := hx4
  clear hall hb1 hb2 hb3 hb4 hx hx1 hx2 hx3 hx4 h2 h3
  by_cases hl : l < 8
  · have hl' : (l : Int) < 8 := by omega
    go_wp2
    go_ret
    exact ⟨rfl, HA.out⟩
  · have hl' : ¬ (l : Int) < 8 := by omega
    go_wp2_with fail
    clear q1 q2 q3 q4 g0 g1 f0 f1
    refine (take_good p l c xs 8 8 rfl (by omega) _ HX.out hlc (by omega) (by omega)).mono ?_
    rintro e w5 ⟨p5, c5, rfl, h5, hc5, hn5, hb5⟩
    have hbd := worth_bd (xs.take 8) (HX.out.byte.take 8)
    have hdw : digits 8 (worth (xs.take 8)) = xs.take 8 := by
      have := digits_worth (xs.take 8) (HX.out.byte.take 8)
      rw [List.length_take, HX.out.len, Nat.min_eq_left (by omega)] at this
      exact this
    rw [List.length_take, HX.out.len, Nat.min_eq_left (by omega)] at hbd
    have HD : Hid (_) := hdw
    clear hdw
    generalize worth (xs.take 8) = V at *
    go_wp2_with fail
    refine (put_good V 8 8 rfl (by omega) hbd.1 hbd.2 _).mono ?_
    rintro e w6 ⟨p6, c6, rfl, h6, hc6, hn6, hb6⟩
    rw [HD.out] at h6
    have h5' := h5.later hb6
    have hx6 := (HX.out.later hb5).later hb6
    have HB6 : Hid (Below w.heap.size w w6) := below_then (below_then HA.out hb5) hb6
    clear h5 hb5 hb6 hbd HA HX HD
    go_wp2_with fail
    have z1 := hx6.drew.str c
    have z2 := (hx6.later (below_alloc w6 (.cells #[.slice p6 8 c6, .slice p5 (l - 8) c5] 23))).drew.str c
    have HX6 : Hid (BIn w6 p l xs) := hx6
    clear hx6
    refine wp_region_noPanic ?_
    refine wp_region_held_drew (S := (fun w' => Sem.run Try.prog (convert 23 9 (Value.slice p l c)) w' = Result.ok (Value.string (strOfNums xs)) w')) (by kernel_rfl) z1 (fun hHeld => ?_)
    refine wpAnyH_take (i := 0) (v := ?v0) (by simp; rfl) (by kernel_rfl) (by kernel_rfl) (by kernel_rfl) (fun _ _ _ h => h) (Or.inl ⟨by rfl, ?y0⟩) hHeld ?r0
    case y0 => intro w hSw; go_simp; with_reducible rfl
    simp only [Act.put, List.setIfInBounds_toArray, List.set_cons_zero, List.set_cons_succ]
    refine wpAnyH_take (i := 1) (v := ?v1) (by simp; rfl) (by kernel_rfl) (by kernel_rfl) (by kernel_rfl) (fun _ _ _ h => h) (Or.inl ⟨by rfl, ?y1⟩) hHeld ?r1
    case y1 => intro w hSw; go_simp; with_reducible rfl
    simp only [Act.put, List.setIfInBounds_toArray, List.set_cons_zero, List.set_cons_succ]
    refine wpAnyH_take (i := 2) (v := ?v2) (by simp; rfl) (by kernel_rfl) (by kernel_rfl) (by kernel_rfl) (fun _ _ _ h => h) (Or.inl ⟨by rfl, ?y2⟩) hHeld ?r2
    case y2 => intro w hSw; go_simp; with_reducible rfl
    simp only [Act.put, List.setIfInBounds_toArray, List.set_cons_zero, List.set_cons_succ]
    refine wpAnyH_take (i := 3) (v := ?v3) (by simp; rfl) (by kernel_rfl) (by kernel_rfl) (by kernel_rfl) (fun _ _ _ h => h) (Or.inl ⟨by rfl, ?y3⟩) hHeld ?r3
    case y3 => intro w hSw; go_simp; with_reducible rfl
    simp only [Act.put, List.setIfInBounds_toArray, List.set_cons_zero, List.set_cons_succ]
    refine wpAnyH_take (i := 4) (v := ?v4) (by simp; rfl) (by kernel_rfl) (by kernel_rfl) (by kernel_rfl) (fun _ _ _ h => h) (Or.inl ⟨by rfl, ?y4⟩) hHeld ?r4
    case y4 => intro w hSw; go_simp; with_reducible rfl
    simp only [Act.put, List.setIfInBounds_toArray, List.set_cons_zero, List.set_cons_succ]
    refine wpAnyH_take (i := 5) (v := ?v5) (by simp; rfl) (by kernel_rfl) (by kernel_rfl) (by kernel_rfl) (fun _ _ _ h => h) (Or.inl ⟨by rfl, ?y5⟩) hHeld ?r5
    case y5 => intro w hSw; go_simp; with_reducible rfl
    simp only [Act.put, List.setIfInBounds_toArray, List.set_cons_zero, List.set_cons_succ]
    refine wpAnyH_take (i := 6) (v := ?v6) (by simp; rfl) (by kernel_rfl) (by kernel_rfl) (by kernel_rfl) (fun _ _ _ h => h) (Or.inl ⟨by rfl, ?y6⟩) hHeld ?r6
    case y6 => intro w hSw; go_simp; with_reducible rfl
    simp only [Act.put, List.setIfInBounds_toArray, List.set_cons_zero, List.set_cons_succ]
    refine wpAnyH_take (i := 7) (v := ?v7) (by simp; rfl) (by kernel_rfl) (by kernel_rfl) (by kernel_rfl) (fun _ _ _ h => h) (Or.inl ⟨by rfl, ?y7⟩) hHeld ?r7
    case y7 => intro w hSw; go_simp; with_reducible rfl
    simp only [Act.put, List.setIfInBounds_toArray, List.set_cons_zero, List.set_cons_succ]
    refine wpAnyH_take (i := 8) (v := ?v8) (by simp; rfl) (by kernel_rfl) (by kernel_rfl) (by kernel_rfl) (fun _ _ _ h => h) (Or.inl ⟨by rfl, ?y8⟩) hHeld ?r8
    case y8 => intro w hSw; go_simp; with_reducible rfl
    simp only [Act.put, List.setIfInBounds_toArray, List.set_cons_zero, List.set_cons_succ]
    refine wpAnyH_take (i := 12) (v := ?v12) (by simp; rfl) (by kernel_rfl) (by kernel_rfl) (by kernel_rfl) (fun _ _ _ h => h) (Or.inl ⟨by rfl, ?y12⟩) hHeld ?r12
    case y12 => intro w hSw; go_simp; with_reducible rfl
    simp only [Act.put, List.setIfInBounds_toArray, List.set_cons_zero, List.set_cons_succ]
    refine wpAnyH_take (i := 13) (v := ?v13) (by simp; rfl) (by kernel_rfl) (by kernel_rfl) (by kernel_rfl) (fun _ _ _ h => h) (Or.inl ⟨by rfl, ?y13⟩) hHeld ?r13
    case y13 => intro w hSw; go_simp; with_reducible rfl
    simp only [Act.put, List.setIfInBounds_toArray, List.set_cons_zero, List.set_cons_succ]
    refine wpAnyH_ready (rs := [9]) (by kernel_rfl) (by simp) ?_
    refine AllReadyH.cons (by simp; rfl) (fun K hK => ?_) AllReadyH.nil
    go_simp
    refine hK.out _ _ z2 (fun hHeld => ?_)
    clear hK K
    refine wpAnyH_ready (rs := [10]) (by kernel_rfl) (by simp) ?_
    refine AllReadyH.cons (by simp; rfl) (fun K hK => ?_) AllReadyH.nil
    go_simp
    refine (join_back w6 p6 p5 8 l c6 c5 xs h6 h5' hc6 hn6 hc5 hn5 (by omega) (by omega)).mono ?_
    rintro e w7 ⟨p7, c7, rfl, h7, hb7⟩
    have z7 := h7.str c7
    have z8 := (HX6.out.later hb7).str c
    refine hK.out _ _ z8 (fun hHeld => ?_)
    clear hK K
    refine wpAnyH_ready (rs := [11]) (by kernel_rfl) (by simp) ?_
    refine AllReadyH.cons (by simp; rfl) (fun K hK => ?_) AllReadyH.nil
    go_simp
    refine hK.out _ _ z8 (fun hHeld => ?_)
    clear hK K
    refine wpAnyH_take (i := 14) (v := ?v14) (by simp; rfl) (by kernel_rfl) (by kernel_rfl) (by kernel_rfl) (fun _ _ _ h => h) (Or.inl ⟨by rfl, ?y14⟩) hHeld ?r14
    case y14 => intro w hSw; go_simp; with_reducible rfl
    simp only [Act.put, List.setIfInBounds_toArray, List.set_cons_zero, List.set_cons_succ]
    refine wpAnyH_take (i := 15) (v := ?v15) (by simp; rfl) (by kernel_rfl) (by kernel_rfl) (by kernel_rfl) (fun _ _ _ h => h) (Or.inl ⟨by rfl, ?y15⟩) hHeld ?r15
    case y15 => intro w hSw; go_simp; with_reducible rfl
    simp only [Act.put, List.setIfInBounds_toArray, List.set_cons_zero, List.set_cons_succ]
    refine wpAnyH_take (i := 16) (v := ?v16) (by simp; rfl) (by kernel_rfl) (by kernel_rfl) (by kernel_rfl) (fun _ _ _ h => h) (Or.inl ⟨by rfl, ?y16⟩) hHeld ?r16
    case y16 => intro w hSw; go_simp; with_reducible rfl
    simp only [Act.put, List.setIfInBounds_toArray, List.set_cons_zero, List.set_cons_succ]
    refine wpAnyH_done (by kernel_rfl) ?_ _
    refine NoPanic.normal ?_
    go_wp2
    go_ret
    exact ⟨rfl, below_then HB6.out hb7⟩


end Go.Proofs.Ytdfnpapnoedpkaa
