/-
  The statement SectorLoads: its walk.
-/
import Derived.Test.YtlidjenkicgldaaRa
namespace Go.Proofs.Ytlidjenkicgldaa
open Go.RowKit

set_option maxRecDepth 10000 in
set_option maxHeartbeats 4000000 in
theorem loads_short (a : Option Addr) (m c : Nat) (xs : List Int) (cut : Int) (w : World) (h : BIn w a m xs) (hmc : m ≤ c) (hac : a = none → c = 0) (hm : m ≤ 20000) :
    Calls Try.prog 5 #[.slice a m c, .int .i64 cut] w fun e w' => e = .returned (.bool true) ∧ Below w.heap.size w w' := by
  obtain ⟨i0, hi, hz0, hz1, hz2⟩ := info_parts info5
  have hm' : ¬ (20000 : Int) < (m : Int) := by omega
  go_enter Try.func5, Try.ntmps5
  go_wp2_with fail
  refine (awake_any w).mono ?_
  rintro e w1 ⟨rfl, hb1⟩
  go_wp2_with fail
  refine (ownb_any a m c xs w1 (h.later hb1) hac hmc (by omega)).mono ?_
  rintro e w2 ⟨v, rfl, hown, hb2⟩
  have HB2 : Hid (Below w.heap.size w w2) := below_then hb1 hb2
  have hsz1 := hb1.size
  have HO : Hid (w2.ownsRow w.heap.size 5 1 v m (U8 xs) ∧ Bytes xs) := ⟨own_mono hown hb1.size, h.byte⟩
  clear hown hb1 hb2 h hac hmc
  go_wp2
  go_loopw [5] (fun v wr => ∃ (K : Nat) (ys : List Int), Hid (wr.ownsRow w.heap.size 5 1 v K (U8 ys) ∧ Bytes ys ∧ Below w.heap.size w wr) ∧ K ≤ (m + 63) / 64 * 64) (fun v _ => (m + 63) / 64 * 64 - lenOf v)
  case atStart => exact ⟨m, xs, ⟨HO.out.1, HO.out.2, HB2.out⟩, by omega⟩
  case round =>
    obtain ⟨K, ys, HR, hKm⟩ := hrel
    obtain ⟨pv, cv, rfl, _⟩ := own_slice HR.out.1
    have hKm2 : K ≤ 20063 := by omega
    by_cases hk : K % 64 = 0
    · have e1 : ((K : Int) % 64 != 0) = false := by rw [show (K : Int) % 64 = 0 by omega]; rfl
      by_cases hk0 : K = 0
      · subst hk0
        obtain ⟨qv, qc, qe, hin, hqc, hqn, _⟩ := own_in HR.out.1 HR.out.2.1
        simp only [Value.slice.injEq, true_and] at qe
        obtain ⟨rfl, rfl⟩ := qe
        have HBr : Hid (Below w.heap.size w wr) := HR.out.2.2
        have HYB : Hid (Bytes ys ∧ ys.length = 0) := ⟨HR.out.2.1, hin.len⟩
        clear HR HO HB2
        go_wp2_with fail
        refine (marked_any pv 0 cv ys wr hin hqn hqc (by omega)).mono ?_
        rintro e w3 ⟨g, cap, rfl, hmo, hcap, hb3⟩
        obtain ⟨hin3, h90, h91⟩ := marked_in hmo HYB.out.2 HYB.out.1
        have hb3' : Below w.heap.size w w3 := below_then HBr.out hb3
        have HI3 : Hid (BIn w3 pv 0 ys) := hin.later hb3
        have HIM : Hid (BIn w3 (some ⟨g, 0, none⟩) 0 ys ∧ w3.cell? ⟨g, 0, none⟩ = some (.int .u8 90) ∧ w3.cell? ⟨g, 0 + 1, none⟩ = some (.int .u8 90)) := ⟨hin3, h90, h91⟩
        have HB3 : Hid (Below w.heap.size w w3) := hb3'
        clear hin hqc hqn HBr hmo hb3 hb3' hin3 h90 h91
        go_wp2_with fail
        refine (load_bad _ 0 cap w3 (by omega) (by omega) (by omega)).mono ?_
        rintro e w4 ⟨rfl, rfl⟩
        go_wp2_with fail
        refine (rload_bad pv 0 cv w3 (by omega) (by omega)).mono ?_
        rintro e w4 ⟨rfl, rfl⟩
        go_wp2_with fail
        refine (held_any g 0 cap cv pv ys w3 HIM.out.1 HIM.out.2.1 HIM.out.2.2 hcap (by omega) HI3.out).mono ?_
        rintro e w4 ⟨rfl, nq, rfl⟩
        go_wp2_with fail
        go_region
        go_wp2
        go_ret
        exact ⟨rfl, HB3.out.trans ⟨rfl, rfl, rfl, Nat.le_refl _, fun _ _ => rfl⟩⟩
      · have hKp : 0 < K := by omega
        obtain ⟨qv, qc, qe, hin, hqc, hqn, _⟩ := own_in HR.out.1 HR.out.2.1
        simp only [Value.slice.injEq, true_and] at qe
        obtain ⟨rfl, rfl⟩ := qe
        have HBr : Hid (Below w.heap.size w wr) := HR.out.2.2
        have HYB : Hid (Bytes ys ∧ ys.length = K) := ⟨HR.out.2.1, hin.len⟩
        clear HR HO HB2
        go_wp2_with fail
        refine (marked_any pv K cv ys wr hin hqn hqc (by omega)).mono ?_
        rintro e w3 ⟨g, cap, rfl, hmo, hcap, hb3⟩
        obtain ⟨hin3, h90, h91⟩ := marked_in hmo HYB.out.2 HYB.out.1
        have hb3' : Below w.heap.size w w3 := below_then HBr.out hb3
        have hI3 : BIn w3 pv K ys := hin.later hb3
        clear hin hqc hqn HBr hmo hb3
        obtain ⟨n, HKn⟩ : ∃ n, Hid (K = 64 * n) := ⟨K / 64, by show _ = _; omega⟩
        have hn1 : 1 ≤ n := by have := HKn.out; omega
        have hn2 : n ≤ 4096 := by have := HKn.out; omega
        go_wp2_with fail
        refine (load_good g 0 K cap n ys w3 hin3 HKn.out (by omega) hn1 hn2).mono ?_
        rintro e w4 ⟨p, rfl, hd, hb4⟩
        obtain ⟨b, o, rfl, _⟩ := hI3.cells (by omega)
        go_wp2_with fail
        refine (rload_good b o K cv n ys w4 (hI3.later hb4) HKn.out hn1 hn2).mono ?_
        rintro e w5 ⟨r, rfl, _, hb5⟩
        have hb35 := below_then hb4 hb5
        have HB5 : Hid (Below w.heap.size w w5) := below_then hb3' hb35
        have HD5 : Hid (Dsk w5 (fun k => w3.heap.size ≤ k) p n ys []) := hd.later hb5
        have HI5 : Hid (BIn w5 (some ⟨b, o, none⟩) K ys ∧ BIn w5 (some ⟨g, 0, none⟩) K ys ∧ w5.cell? ⟨g, K, none⟩ = some (.int .u8 90) ∧ w5.cell? ⟨g, K + 1, none⟩ = some (.int .u8 90)) :=
          ⟨hI3.later hb35, hin3.later hb35, (hb35.cell (p := ⟨g, K, none⟩) (World.block_lt_of_cell? w3 _ h90)).trans h90, (hb35.cell (p := ⟨g, K + 1, none⟩) (World.block_lt_of_cell? w3 _ h91)).trans h91⟩
        clear hI3 hin3 h90 h91 hd hb4 hb5 hb35 hb3'
        go_wp2_with fail
        refine (held_any g K cap cv (some ⟨b, o, none⟩) ys w5 HI5.out.2.1 HI5.out.2.2.1 HI5.out.2.2.2 hcap (by omega) HI5.out.1).mono ?_
        rintro e w6 ⟨rfl, nq, rfl⟩
        have HD6 : Hid (Dsk (w5.drewN nq).drew (fun k => w3.heap.size ≤ k) p n ys []) := HD5.out.later ⟨rfl, rfl, rfl, Nat.le_refl _, fun _ _ => rfl⟩
        have HB6 : Hid (Below w.heap.size w (w5.drewN nq).drew) := HB5.out.trans ⟨rfl, rfl, rfl, Nat.le_refl _, fun _ _ => rfl⟩
        have z1 := (HI5.out.1.drewN nq).drew.str cv
        have HI6 : Hid (BIn (w5.drewN nq).drew (some ⟨b, o, none⟩) K ys) := (HI5.out.1.drewN nq).drew
        clear HI5 HD5 HB5
        go_wp2_with fail
        refine wp_region_noPanic ?_
        refine wp_region_held_drew (S := (fun w' => Sem.run Try.prog (convert 23 9 (Value.slice (some ⟨b, o, none⟩) K cv)) w' = Result.ok (Value.string (strOfNums ys)) w')) (by kernel_rfl) z1 (fun hHeld => ?_)
        clear z1
        refine wpAnyH_take (i := 0) (v := ?v0) (by simp; rfl) (by kernel_rfl) (by kernel_rfl) (by kernel_rfl) (fun _ _ _ h => h) (Or.inl ⟨by rfl, ?y0⟩) hHeld ?r0
        case y0 => intro w hSw; clear hSw; go_simp; with_reducible rfl
        simp only [Act.put, List.setIfInBounds_toArray, List.set_cons_zero, List.set_cons_succ]
        refine wpAnyH_take (i := 1) (v := ?v1) (by simp; rfl) (by kernel_rfl) (by kernel_rfl) (by kernel_rfl) (fun _ _ _ h => h) (Or.inl ⟨by rfl, ?y1⟩) hHeld ?r1
        case y1 => intro w hSw; clear hSw; go_simp; with_reducible rfl
        simp only [Act.put, List.setIfInBounds_toArray, List.set_cons_zero, List.set_cons_succ]
        refine wpAnyH_take (i := 2) (v := ?v2) (by simp; rfl) (by kernel_rfl) (by kernel_rfl) (by kernel_rfl) (fun _ _ _ h => h) (Or.inl ⟨by rfl, ?y2⟩) hHeld ?r2
        case y2 => intro w hSw; clear hSw; go_simp; with_reducible rfl
        simp only [Act.put, List.setIfInBounds_toArray, List.set_cons_zero, List.set_cons_succ]
        refine wpAnyH_take (i := 3) (v := ?v3) (by simp; rfl) (by kernel_rfl) (by kernel_rfl) (by kernel_rfl) (fun _ _ _ h => h) (Or.inl ⟨by rfl, ?y3⟩) hHeld ?r3
        case y3 => intro w hSw; clear hSw; go_simp; with_reducible rfl
        simp only [Act.put, List.setIfInBounds_toArray, List.set_cons_zero, List.set_cons_succ]
        refine wpAnyH_take (i := 6) (v := ?v6) (by simp; rfl) (by kernel_rfl) (by kernel_rfl) (by kernel_rfl) (fun _ _ _ h => h) (Or.inl ⟨by rfl, ?y6⟩) hHeld ?r6
        case y6 => intro w hSw; clear hSw; go_simp; with_reducible rfl
        simp only [Act.put, List.setIfInBounds_toArray, List.set_cons_zero, List.set_cons_succ]
        refine wpAnyH_take (i := 7) (v := ?v7) (by simp; rfl) (by kernel_rfl) (by kernel_rfl) (by kernel_rfl) (fun _ _ _ h => h) (Or.inl ⟨by rfl, ?y7⟩) hHeld ?r7
        case y7 => intro w hSw; go_simp; with_reducible rfl
        simp only [Act.put, List.setIfInBounds_toArray, List.set_cons_zero, List.set_cons_succ]
        refine wpAnyH_ready (rs := [4]) (by kernel_rfl) (by simp) ?_
        refine AllReadyH.cons (by simp; rfl) (fun K' hK => ?_) AllReadyH.nil
        go_simp
        refine (image_any HD6.out).mono ?_
        rintro e w7 ⟨vi, rfl, hown, hb7⟩
        obtain ⟨pi, ci, rfl, hini, _⟩ := own_in hown HYB.out.1
        have z5 := hini.str ci
        have z1 := (HI6.out.later hb7).str cv
        refine hK.out _ _ z1 (fun hHeld => ?_)
        clear hK K'
        refine wpAnyH_ready (rs := [5]) (by kernel_rfl) (by simp) ?_
        refine AllReadyH.cons (by simp; rfl) (fun K' hK => ?_) AllReadyH.nil
        go_simp
        refine hK.out _ _ z1 (fun hHeld => ?_)
        clear hK K' z5
        have HD7 : Hid (Dsk w7 (fun k => w3.heap.size ≤ k) p n ys []) := HD6.out.later hb7
        have HB7 : Hid (Below w.heap.size w w7) := below_then HB6.out hb7
        clear hown hini
        have eK : (K : Int) / 64 = (n : Int) := by have := HKn.out; omega
        have hw : IntKind.i64.wrap (n : Int) = (n : Int) := by rw [IntKind.wrap_i64]; omega
        refine wpAnyH_take (i := 8) (v := ?v8) (by simp; rfl) (by kernel_rfl) (by kernel_rfl) (by kernel_rfl) (fun _ _ _ h => h) (Or.inl ⟨by rfl, ?y8⟩) hHeld ?r8
        case y8 => intro w hSw; clear hSw; go_simp; with_reducible rfl
        simp only [Act.put, List.setIfInBounds_toArray, List.set_cons_zero, List.set_cons_succ]
        refine wpAnyH_take (i := 9) (v := ?v9) (by simp; rfl) (by kernel_rfl) (by kernel_rfl) (by kernel_rfl) (fun _ _ _ h => h) (Or.inl ⟨by rfl, ?y9⟩) hHeld ?r9
        case y9 => intro w hSw; clear hSw; go_simp; with_reducible rfl
        simp only [Act.put, List.setIfInBounds_toArray, List.set_cons_zero, List.set_cons_succ]
        refine wpAnyH_take (i := 10) (v := ?v10) (by simp; rfl) (by kernel_rfl) (by kernel_rfl) (by kernel_rfl) (fun _ _ _ h => h) (Or.inl ⟨by rfl, ?y10⟩) hHeld ?r10
        case y10 => intro w hSw; clear hSw; go_simp; with_reducible rfl
        simp only [Act.put, List.setIfInBounds_toArray, List.set_cons_zero, List.set_cons_succ]
        refine wpAnyH_take (i := 12) (v := ?v12) (by simp; rfl) (by kernel_rfl) (by kernel_rfl) (by kernel_rfl) (fun _ _ _ h => h) (Or.inl ⟨by rfl, ?y12⟩) hHeld ?r12
        case y12 => intro w hSw; clear hSw; go_simp; with_reducible rfl
        simp only [Act.put, List.setIfInBounds_toArray, List.set_cons_zero, List.set_cons_succ]
        refine wpAnyH_take (i := 13) (v := ?v13) (by simp; rfl) (by kernel_rfl) (by kernel_rfl) (by kernel_rfl) (fun _ _ _ h => h) (Or.inl ⟨by rfl, ?y13⟩) hHeld ?r13
        case y13 => intro w hSw; clear hSw; go_simp; with_reducible rfl
        simp only [Act.put, List.setIfInBounds_toArray, List.set_cons_zero, List.set_cons_succ]
        refine wpAnyH_take (i := 14) (v := ?v14) (by simp; rfl) (by kernel_rfl) (by kernel_rfl) (by kernel_rfl) (fun _ _ _ h => h) (Or.inl ⟨by rfl, ?y14⟩) hHeld ?r14
        case y14 => intro w hSw; clear hSw; go_simp; with_reducible rfl
        simp only [Act.put, List.setIfInBounds_toArray, List.set_cons_zero, List.set_cons_succ]
        refine wpAnyH_ready (rs := [11]) (by kernel_rfl) (by simp) ?_
        refine AllReadyH.cons (by simp; rfl) (fun K' hK => ?_) AllReadyH.nil
        go_simp
        refine (len_any HD7.out).mono ?_
        rintro e w8 ⟨rfl, rfl⟩
        refine hK.out _ _ z1 (fun hHeld => ?_)
        clear hK K'
        refine wpAnyH_take (i := 15) (v := ?v15) (by simp; rfl) (by kernel_rfl) (by kernel_rfl) (by kernel_rfl) (fun _ _ _ h => h) (Or.inl ⟨by rfl, ?y15⟩) hHeld ?r15
        case y15 => intro w hSw; clear hSw; go_simp; with_reducible rfl
        simp only [Act.put, List.setIfInBounds_toArray, List.set_cons_zero, List.set_cons_succ]
        refine wpAnyH_take (i := 16) (v := ?v16) (by simp; rfl) (by kernel_rfl) (by kernel_rfl) (by kernel_rfl) (fun _ _ _ h => h) (Or.inl ⟨by rfl, ?y16⟩) hHeld ?r16
        case y16 => intro w hSw; clear hSw; go_simp; with_reducible rfl
        simp only [Act.put, List.setIfInBounds_toArray, List.set_cons_zero, List.set_cons_succ]
        refine wpAnyH_take (i := 17) (v := ?v17) (by simp; rfl) (by kernel_rfl) (by kernel_rfl) (by kernel_rfl) (fun _ _ _ h => h) (Or.inl ⟨by rfl, ?y17⟩) hHeld ?r17
        case y17 => intro w hSw; clear hSw; go_simp; with_reducible rfl
        simp only [Act.put, List.setIfInBounds_toArray, List.set_cons_zero, List.set_cons_succ]
        refine wpAnyH_take (i := 18) (v := ?v18) (by simp; rfl) (by kernel_rfl) (by kernel_rfl) (by kernel_rfl) (fun _ _ _ h => h) (Or.inl ⟨by rfl, ?y18⟩) hHeld ?r18
        case y18 => intro w hSw; clear hSw; go_simp; with_reducible rfl
        simp only [Act.put, List.setIfInBounds_toArray, List.set_cons_zero, List.set_cons_succ]
        refine wpAnyH_ready (rs := [19]) (by kernel_rfl) (by simp) ?_
        refine AllReadyH.cons (by simp; rfl) (fun K' hK => ?_) AllReadyH.nil
        go_simp
        refine (waiting_any HD7.out (by simp)).mono ?_
        rintro e w9 ⟨gw, vs, rfl, _, hb9⟩
        have z9 := ((HI6.out.later hb7).later hb9).str cv
        refine hK.out _ _ z9 (fun hHeld => ?_)
        clear hK K'
        refine wpAnyH_take (i := 20) (v := ?v20) (by simp; rfl) (by kernel_rfl) (by kernel_rfl) (by kernel_rfl) (fun _ _ _ h => h) (Or.inl ⟨by rfl, ?y20⟩) hHeld ?r20
        case y20 => intro w hSw; clear hSw; go_simp; with_reducible rfl
        simp only [Act.put, List.setIfInBounds_toArray, List.set_cons_zero, List.set_cons_succ]
        refine wpAnyH_take (i := 21) (v := ?v21) (by simp; rfl) (by kernel_rfl) (by kernel_rfl) (by kernel_rfl) (fun _ _ _ h => h) (Or.inl ⟨by rfl, ?y21⟩) hHeld ?r21
        case y21 => intro w hSw; clear hSw; go_simp; with_reducible rfl
        simp only [Act.put, List.setIfInBounds_toArray, List.set_cons_zero, List.set_cons_succ]
        refine wpAnyH_take (i := 22) (v := ?v22) (by simp; rfl) (by kernel_rfl) (by kernel_rfl) (by kernel_rfl) (fun _ _ _ h => h) (Or.inl ⟨by rfl, ?y22⟩) hHeld ?r22
        case y22 => intro w hSw; clear hSw; go_simp; with_reducible rfl
        simp only [Act.put, List.setIfInBounds_toArray, List.set_cons_zero, List.set_cons_succ]
        refine wpAnyH_take (i := 23) (v := ?v23) (by simp; rfl) (by kernel_rfl) (by kernel_rfl) (by kernel_rfl) (fun _ _ _ h => h) (Or.inl ⟨by rfl, ?y23⟩) hHeld ?r23
        case y23 => intro w hSw; clear hSw; go_simp; with_reducible rfl
        simp only [Act.put, List.setIfInBounds_toArray, List.set_cons_zero, List.set_cons_succ]
        refine wpAnyH_take (i := 24) (v := ?v24) (by simp; rfl) (by kernel_rfl) (by kernel_rfl) (by kernel_rfl) (fun _ _ _ h => h) (Or.inl ⟨by rfl, ?y24⟩) hHeld ?r24
        case y24 => intro w hSw; clear hSw; go_simp; with_reducible rfl
        simp only [Act.put, List.setIfInBounds_toArray, List.set_cons_zero, List.set_cons_succ]
        refine wpAnyH_done (by kernel_rfl) (NoPanic.normal ?_) _
        go_wp2
        go_ret
        exact ⟨rfl, below_then HB7.out hb9⟩
    · have e1 : ((K : Int) % 64 != 0) = true := by rw [bne_iff_ne]; omega
      cases e3 : (cut.tmod 3 != 0) with
      | false =>
        obtain ⟨qv, qc, qe, hin, hqc, hqn, _⟩ := own_in HR.out.1 HR.out.2.1
        simp only [Value.slice.injEq, true_and] at qe
        obtain ⟨rfl, rfl⟩ := qe
        have HBr : Hid (Below w.heap.size w wr) := HR.out.2.2
        have HYB : Hid (Bytes ys ∧ ys.length = K) := ⟨HR.out.2.1, hin.len⟩
        clear HR HO HB2
        go_wp2_with fail
        refine (marked_any pv K cv ys wr hin hqn hqc (by omega)).mono ?_
        rintro e w3 ⟨g, cap, rfl, hmo, hcap, hb3⟩
        obtain ⟨hin3, h90, h91⟩ := marked_in hmo HYB.out.2 HYB.out.1
        have hb3' : Below w.heap.size w w3 := below_then HBr.out hb3
        have HI3 : Hid (BIn w3 pv K ys) := hin.later hb3
        have HIM : Hid (BIn w3 (some ⟨g, 0, none⟩) K ys ∧ w3.cell? ⟨g, K, none⟩ = some (.int .u8 90) ∧ w3.cell? ⟨g, K + 1, none⟩ = some (.int .u8 90)) := ⟨hin3, h90, h91⟩
        have HB3 : Hid (Below w.heap.size w w3) := hb3'
        clear hin hqc hqn HBr hmo hb3 hb3' hin3 h90 h91
        go_wp2_with fail
        refine (load_odd _ K cap w3 hk (by omega)).mono ?_
        rintro e w4 ⟨rfl, rfl⟩
        go_wp2_with fail
        refine (rload_bad pv K cv w3 (by omega) (by omega)).mono ?_
        rintro e w4 ⟨rfl, rfl⟩
        go_wp2_with fail
        refine (held_any g K cap cv pv ys w3 HIM.out.1 HIM.out.2.1 HIM.out.2.2 hcap (by omega) HI3.out).mono ?_
        rintro e w4 ⟨rfl, nq, rfl⟩
        go_wp2_with fail
        go_region
        go_wp2
        go_ret
        exact ⟨rfl, HB3.out.trans ⟨rfl, rfl, rfl, Nat.le_refl _, fun _ _ => rfl⟩⟩
      | true =>
        have HNw : Hid (∀ j u, (U8 [cut % 256])[j]? = some u → (wr.alloc (.cells #[.int .u8 (cut % 256)] 5)).cell? ((⟨wr.heap.size, 0, none⟩ : Addr).add j) = some u) := cell_one_new _ _ _
        go_wp2_with (at_builtin; refine wpList_append_own _ rfl (.tmp 29) (.tmp 32) 23 rfl w.heap.size 5 i0 (.int .u8 0) 1 1 Try.underlying23 hi hz0 hz1 hz2 rfl (by omega) _ K (U8 ys) rfl (HR.out.1.alloc _) ⟨wr.heap.size, 0, none⟩ 1 1 (U8 [cut % 256]) rfl rfl HNw.out (ones_u8 _) (by unfold maxLen; omega) (by omega) (by have := HR.out.2.2.size; simp; omega) ?_; intro v' w5 hown hgrow _; have HU : Hid (w5.ownsRow w.heap.size 5 1 v' (K + 1) (U8 (ys ++ [cut % 256])) ∧ Bytes (ys ++ [cut % 256]) ∧ Below w.heap.size w w5) := ⟨by rw [show U8 (ys ++ [cut % 256]) = U8 ys ++ U8 [cut % 256] from List.map_append]; exact hown, HR.out.2.1.append (Bytes.cons (by omega) Bytes.nil), (HR.out.2.2.alloc HR.out.2.2.size _).grown hgrow (by have := HR.out.2.2.size; simp; omega) (fun j hj => (HR.out.1.lt j hj).1)⟩; obtain ⟨pv2, cv2, rfl, _⟩ := own_slice hown; clear hown hgrow)
        go_roundw
        case rel => exact ⟨K + 1, _, HU, by omega⟩
        case measure => simp [lenOf]; omega
set_option maxRecDepth 10000 in
set_option maxHeartbeats 4000000 in
theorem loads_long (a : Option Addr) (m c : Nat) (xs : List Int) (cut : Int) (w : World) (h : BIn w a m xs) (hmc : m ≤ c) (hac : a = none → c = 0) (hm : 20000 < m) :
    Calls Try.prog 5 #[.slice a m c, .int .i64 cut] w fun e w' => e = .returned (.bool true) ∧ Below w.heap.size w w' := by
  obtain ⟨i0, hi, hz0, hz1, hz2⟩ := info_parts info5
  have hm' : (20000 : Int) < (m : Int) := by omega
  have hcI : (20000 : Int) ≤ (c : Int) := by omega
  have hcN : ¬ c = 0 := by omega
  go_enter Try.func5, Try.ntmps5
  go_wp2_with fail
  refine (awake_any w).mono ?_
  rintro e w1 ⟨rfl, hb1⟩
  go_wp2_with fail
  refine (ownb_any a 20000 c (xs.take 20000) w1 ((h.take 20000 (by omega)).later hb1) hac (by omega) (by omega)).mono ?_
  rintro e w2 ⟨v, rfl, hown, hb2⟩
  have HB2 : Hid (Below w.heap.size w w2) := below_then hb1 hb2
  have hsz1 := hb1.size
  have HO : Hid (w2.ownsRow w.heap.size 5 1 v 20000 (U8 (xs.take 20000)) ∧ Bytes (xs.take 20000)) := ⟨own_mono hown hb1.size, h.byte.take _⟩
  clear hown hb1 hb2 h hac hmc
  go_wp2
  go_loopw [5] (fun v wr => ∃ (K : Nat) (ys : List Int), Hid (wr.ownsRow w.heap.size 5 1 v K (U8 ys) ∧ Bytes ys ∧ Below w.heap.size w wr) ∧ K ≤ 20032) (fun v _ => 20032 - lenOf v)
  case atStart => exact ⟨20000, xs.take 20000, ⟨HO.out.1, HO.out.2, HB2.out⟩, by omega⟩
  case round =>
    obtain ⟨K, ys, HR, hKm⟩ := hrel
    obtain ⟨pv, cv, rfl, _⟩ := own_slice HR.out.1
    have hKm2 : K ≤ 20063 := by omega
    by_cases hk : K % 64 = 0
    · have e1 : ((K : Int) % 64 != 0) = false := by rw [show (K : Int) % 64 = 0 by omega]; rfl
      by_cases hk0 : K = 0
      · subst hk0
        obtain ⟨qv, qc, qe, hin, hqc, hqn, _⟩ := own_in HR.out.1 HR.out.2.1
        simp only [Value.slice.injEq, true_and] at qe
        obtain ⟨rfl, rfl⟩ := qe
        have HBr : Hid (Below w.heap.size w wr) := HR.out.2.2
        have HYB : Hid (Bytes ys ∧ ys.length = 0) := ⟨HR.out.2.1, hin.len⟩
        clear HR HO HB2
        go_wp2_with fail
        refine (marked_any pv 0 cv ys wr hin hqn hqc (by omega)).mono ?_
        rintro e w3 ⟨g, cap, rfl, hmo, hcap, hb3⟩
        obtain ⟨hin3, h90, h91⟩ := marked_in hmo HYB.out.2 HYB.out.1
        have hb3' : Below w.heap.size w w3 := below_then HBr.out hb3
        have HI3 : Hid (BIn w3 pv 0 ys) := hin.later hb3
        have HIM : Hid (BIn w3 (some ⟨g, 0, none⟩) 0 ys ∧ w3.cell? ⟨g, 0, none⟩ = some (.int .u8 90) ∧ w3.cell? ⟨g, 0 + 1, none⟩ = some (.int .u8 90)) := ⟨hin3, h90, h91⟩
        have HB3 : Hid (Below w.heap.size w w3) := hb3'
        clear hin hqc hqn HBr hmo hb3 hb3' hin3 h90 h91
        go_wp2_with fail
        refine (load_bad _ 0 cap w3 (by omega) (by omega) (by omega)).mono ?_
        rintro e w4 ⟨rfl, rfl⟩
        go_wp2_with fail
        refine (rload_bad pv 0 cv w3 (by omega) (by omega)).mono ?_
        rintro e w4 ⟨rfl, rfl⟩
        go_wp2_with fail
        refine (held_any g 0 cap cv pv ys w3 HIM.out.1 HIM.out.2.1 HIM.out.2.2 hcap (by omega) HI3.out).mono ?_
        rintro e w4 ⟨rfl, nq, rfl⟩
        go_wp2_with fail
        go_region
        go_wp2
        go_ret
        exact ⟨rfl, HB3.out.trans ⟨rfl, rfl, rfl, Nat.le_refl _, fun _ _ => rfl⟩⟩
      · have hKp : 0 < K := by omega
        obtain ⟨qv, qc, qe, hin, hqc, hqn, _⟩ := own_in HR.out.1 HR.out.2.1
        simp only [Value.slice.injEq, true_and] at qe
        obtain ⟨rfl, rfl⟩ := qe
        have HBr : Hid (Below w.heap.size w wr) := HR.out.2.2
        have HYB : Hid (Bytes ys ∧ ys.length = K) := ⟨HR.out.2.1, hin.len⟩
        clear HR HO HB2
        go_wp2_with fail
        refine (marked_any pv K cv ys wr hin hqn hqc (by omega)).mono ?_
        rintro e w3 ⟨g, cap, rfl, hmo, hcap, hb3⟩
        obtain ⟨hin3, h90, h91⟩ := marked_in hmo HYB.out.2 HYB.out.1
        have hb3' : Below w.heap.size w w3 := below_then HBr.out hb3
        have hI3 : BIn w3 pv K ys := hin.later hb3
        clear hin hqc hqn HBr hmo hb3
        obtain ⟨n, HKn⟩ : ∃ n, Hid (K = 64 * n) := ⟨K / 64, by show _ = _; omega⟩
        have hn1 : 1 ≤ n := by have := HKn.out; omega
        have hn2 : n ≤ 4096 := by have := HKn.out; omega
        go_wp2_with fail
        refine (load_good g 0 K cap n ys w3 hin3 HKn.out (by omega) hn1 hn2).mono ?_
        rintro e w4 ⟨p, rfl, hd, hb4⟩
        obtain ⟨b, o, rfl, _⟩ := hI3.cells (by omega)
        go_wp2_with fail
        refine (rload_good b o K cv n ys w4 (hI3.later hb4) HKn.out hn1 hn2).mono ?_
        rintro e w5 ⟨r, rfl, _, hb5⟩
        have hb35 := below_then hb4 hb5
        have HB5 : Hid (Below w.heap.size w w5) := below_then hb3' hb35
        have HD5 : Hid (Dsk w5 (fun k => w3.heap.size ≤ k) p n ys []) := hd.later hb5
        have HI5 : Hid (BIn w5 (some ⟨b, o, none⟩) K ys ∧ BIn w5 (some ⟨g, 0, none⟩) K ys ∧ w5.cell? ⟨g, K, none⟩ = some (.int .u8 90) ∧ w5.cell? ⟨g, K + 1, none⟩ = some (.int .u8 90)) :=
          ⟨hI3.later hb35, hin3.later hb35, (hb35.cell (p := ⟨g, K, none⟩) (World.block_lt_of_cell? w3 _ h90)).trans h90, (hb35.cell (p := ⟨g, K + 1, none⟩) (World.block_lt_of_cell? w3 _ h91)).trans h91⟩
        clear hI3 hin3 h90 h91 hd hb4 hb5 hb35 hb3'
        go_wp2_with fail
        refine (held_any g K cap cv (some ⟨b, o, none⟩) ys w5 HI5.out.2.1 HI5.out.2.2.1 HI5.out.2.2.2 hcap (by omega) HI5.out.1).mono ?_
        rintro e w6 ⟨rfl, nq, rfl⟩
        have HD6 : Hid (Dsk (w5.drewN nq).drew (fun k => w3.heap.size ≤ k) p n ys []) := HD5.out.later ⟨rfl, rfl, rfl, Nat.le_refl _, fun _ _ => rfl⟩
        have HB6 : Hid (Below w.heap.size w (w5.drewN nq).drew) := HB5.out.trans ⟨rfl, rfl, rfl, Nat.le_refl _, fun _ _ => rfl⟩
        have z1 := (HI5.out.1.drewN nq).drew.str cv
        have HI6 : Hid (BIn (w5.drewN nq).drew (some ⟨b, o, none⟩) K ys) := (HI5.out.1.drewN nq).drew
        clear HI5 HD5 HB5
        go_wp2_with fail
        refine wp_region_noPanic ?_
        refine wp_region_held_drew (S := (fun w' => Sem.run Try.prog (convert 23 9 (Value.slice (some ⟨b, o, none⟩) K cv)) w' = Result.ok (Value.string (strOfNums ys)) w')) (by kernel_rfl) z1 (fun hHeld => ?_)
        clear z1
        refine wpAnyH_take (i := 0) (v := ?v0) (by simp; rfl) (by kernel_rfl) (by kernel_rfl) (by kernel_rfl) (fun _ _ _ h => h) (Or.inl ⟨by rfl, ?y0⟩) hHeld ?r0
        case y0 => intro w hSw; clear hSw; go_simp; with_reducible rfl
        simp only [Act.put, List.setIfInBounds_toArray, List.set_cons_zero, List.set_cons_succ]
        refine wpAnyH_take (i := 1) (v := ?v1) (by simp; rfl) (by kernel_rfl) (by kernel_rfl) (by kernel_rfl) (fun _ _ _ h => h) (Or.inl ⟨by rfl, ?y1⟩) hHeld ?r1
        case y1 => intro w hSw; clear hSw; go_simp; with_reducible rfl
        simp only [Act.put, List.setIfInBounds_toArray, List.set_cons_zero, List.set_cons_succ]
        refine wpAnyH_take (i := 2) (v := ?v2) (by simp; rfl) (by kernel_rfl) (by kernel_rfl) (by kernel_rfl) (fun _ _ _ h => h) (Or.inl ⟨by rfl, ?y2⟩) hHeld ?r2
        case y2 => intro w hSw; clear hSw; go_simp; with_reducible rfl
        simp only [Act.put, List.setIfInBounds_toArray, List.set_cons_zero, List.set_cons_succ]
        refine wpAnyH_take (i := 3) (v := ?v3) (by simp; rfl) (by kernel_rfl) (by kernel_rfl) (by kernel_rfl) (fun _ _ _ h => h) (Or.inl ⟨by rfl, ?y3⟩) hHeld ?r3
        case y3 => intro w hSw; clear hSw; go_simp; with_reducible rfl
        simp only [Act.put, List.setIfInBounds_toArray, List.set_cons_zero, List.set_cons_succ]
        refine wpAnyH_take (i := 6) (v := ?v6) (by simp; rfl) (by kernel_rfl) (by kernel_rfl) (by kernel_rfl) (fun _ _ _ h => h) (Or.inl ⟨by rfl, ?y6⟩) hHeld ?r6
        case y6 => intro w hSw; clear hSw; go_simp; with_reducible rfl
        simp only [Act.put, List.setIfInBounds_toArray, List.set_cons_zero, List.set_cons_succ]
        refine wpAnyH_take (i := 7) (v := ?v7) (by simp; rfl) (by kernel_rfl) (by kernel_rfl) (by kernel_rfl) (fun _ _ _ h => h) (Or.inl ⟨by rfl, ?y7⟩) hHeld ?r7
        case y7 => intro w hSw; go_simp; with_reducible rfl
        simp only [Act.put, List.setIfInBounds_toArray, List.set_cons_zero, List.set_cons_succ]
        refine wpAnyH_ready (rs := [4]) (by kernel_rfl) (by simp) ?_
        refine AllReadyH.cons (by simp; rfl) (fun K' hK => ?_) AllReadyH.nil
        go_simp
        refine (image_any HD6.out).mono ?_
        rintro e w7 ⟨vi, rfl, hown, hb7⟩
        obtain ⟨pi, ci, rfl, hini, _⟩ := own_in hown HYB.out.1
        have z5 := hini.str ci
        have z1 := (HI6.out.later hb7).str cv
        refine hK.out _ _ z1 (fun hHeld => ?_)
        clear hK K'
        refine wpAnyH_ready (rs := [5]) (by kernel_rfl) (by simp) ?_
        refine AllReadyH.cons (by simp; rfl) (fun K' hK => ?_) AllReadyH.nil
        go_simp
        refine hK.out _ _ z1 (fun hHeld => ?_)
        clear hK K' z5
        have HD7 : Hid (Dsk w7 (fun k => w3.heap.size ≤ k) p n ys []) := HD6.out.later hb7
        have HB7 : Hid (Below w.heap.size w w7) := below_then HB6.out hb7
        clear hown hini
        have eK : (K : Int) / 64 = (n : Int) := by have := HKn.out; omega
        have hw : IntKind.i64.wrap (n : Int) = (n : Int) := by rw [IntKind.wrap_i64]; omega
        refine wpAnyH_take (i := 8) (v := ?v8) (by simp; rfl) (by kernel_rfl) (by kernel_rfl) (by kernel_rfl) (fun _ _ _ h => h) (Or.inl ⟨by rfl, ?y8⟩) hHeld ?r8
        case y8 => intro w hSw; clear hSw; go_simp; with_reducible rfl
        simp only [Act.put, List.setIfInBounds_toArray, List.set_cons_zero, List.set_cons_succ]
        refine wpAnyH_take (i := 9) (v := ?v9) (by simp; rfl) (by kernel_rfl) (by kernel_rfl) (by kernel_rfl) (fun _ _ _ h => h) (Or.inl ⟨by rfl, ?y9⟩) hHeld ?r9
        case y9 => intro w hSw; clear hSw; go_simp; with_reducible rfl
        simp only [Act.put, List.setIfInBounds_toArray, List.set_cons_zero, List.set_cons_succ]
        refine wpAnyH_take (i := 10) (v := ?v10) (by simp; rfl) (by kernel_rfl) (by kernel_rfl) (by kernel_rfl) (fun _ _ _ h => h) (Or.inl ⟨by rfl, ?y10⟩) hHeld ?r10
        case y10 => intro w hSw; clear hSw; go_simp; with_reducible rfl
        simp only [Act.put, List.setIfInBounds_toArray, List.set_cons_zero, List.set_cons_succ]
        refine wpAnyH_take (i := 12) (v := ?v12) (by simp; rfl) (by kernel_rfl) (by kernel_rfl) (by kernel_rfl) (fun _ _ _ h => h) (Or.inl ⟨by rfl, ?y12⟩) hHeld ?r12
        case y12 => intro w hSw; clear hSw; go_simp; with_reducible rfl
        simp only [Act.put, List.setIfInBounds_toArray, List.set_cons_zero, List.set_cons_succ]
        refine wpAnyH_take (i := 13) (v := ?v13) (by simp; rfl) (by kernel_rfl) (by kernel_rfl) (by kernel_rfl) (fun _ _ _ h => h) (Or.inl ⟨by rfl, ?y13⟩) hHeld ?r13
        case y13 => intro w hSw; clear hSw; go_simp; with_reducible rfl
        simp only [Act.put, List.setIfInBounds_toArray, List.set_cons_zero, List.set_cons_succ]
        refine wpAnyH_take (i := 14) (v := ?v14) (by simp; rfl) (by kernel_rfl) (by kernel_rfl) (by kernel_rfl) (fun _ _ _ h => h) (Or.inl ⟨by rfl, ?y14⟩) hHeld ?r14
        case y14 => intro w hSw; clear hSw; go_simp; with_reducible rfl
        simp only [Act.put, List.setIfInBounds_toArray, List.set_cons_zero, List.set_cons_succ]
        refine wpAnyH_ready (rs := [11]) (by kernel_rfl) (by simp) ?_
        refine AllReadyH.cons (by simp; rfl) (fun K' hK => ?_) AllReadyH.nil
        go_simp
        refine (len_any HD7.out).mono ?_
        rintro e w8 ⟨rfl, rfl⟩
        refine hK.out _ _ z1 (fun hHeld => ?_)
        clear hK K'
        refine wpAnyH_take (i := 15) (v := ?v15) (by simp; rfl) (by kernel_rfl) (by kernel_rfl) (by kernel_rfl) (fun _ _ _ h => h) (Or.inl ⟨by rfl, ?y15⟩) hHeld ?r15
        case y15 => intro w hSw; clear hSw; go_simp; with_reducible rfl
        simp only [Act.put, List.setIfInBounds_toArray, List.set_cons_zero, List.set_cons_succ]
        refine wpAnyH_take (i := 16) (v := ?v16) (by simp; rfl) (by kernel_rfl) (by kernel_rfl) (by kernel_rfl) (fun _ _ _ h => h) (Or.inl ⟨by rfl, ?y16⟩) hHeld ?r16
        case y16 => intro w hSw; clear hSw; go_simp; with_reducible rfl
        simp only [Act.put, List.setIfInBounds_toArray, List.set_cons_zero, List.set_cons_succ]
        refine wpAnyH_take (i := 17) (v := ?v17) (by simp; rfl) (by kernel_rfl) (by kernel_rfl) (by kernel_rfl) (fun _ _ _ h => h) (Or.inl ⟨by rfl, ?y17⟩) hHeld ?r17
        case y17 => intro w hSw; clear hSw; go_simp; with_reducible rfl
        simp only [Act.put, List.setIfInBounds_toArray, List.set_cons_zero, List.set_cons_succ]
        refine wpAnyH_take (i := 18) (v := ?v18) (by simp; rfl) (by kernel_rfl) (by kernel_rfl) (by kernel_rfl) (fun _ _ _ h => h) (Or.inl ⟨by rfl, ?y18⟩) hHeld ?r18
        case y18 => intro w hSw; clear hSw; go_simp; with_reducible rfl
        simp only [Act.put, List.setIfInBounds_toArray, List.set_cons_zero, List.set_cons_succ]
        refine wpAnyH_ready (rs := [19]) (by kernel_rfl) (by simp) ?_
        refine AllReadyH.cons (by simp; rfl) (fun K' hK => ?_) AllReadyH.nil
        go_simp
        refine (waiting_any HD7.out (by simp)).mono ?_
        rintro e w9 ⟨gw, vs, rfl, _, hb9⟩
        have z9 := ((HI6.out.later hb7).later hb9).str cv
        refine hK.out _ _ z9 (fun hHeld => ?_)
        clear hK K'
        refine wpAnyH_take (i := 20) (v := ?v20) (by simp; rfl) (by kernel_rfl) (by kernel_rfl) (by kernel_rfl) (fun _ _ _ h => h) (Or.inl ⟨by rfl, ?y20⟩) hHeld ?r20
        case y20 => intro w hSw; clear hSw; go_simp; with_reducible rfl
        simp only [Act.put, List.setIfInBounds_toArray, List.set_cons_zero, List.set_cons_succ]
        refine wpAnyH_take (i := 21) (v := ?v21) (by simp; rfl) (by kernel_rfl) (by kernel_rfl) (by kernel_rfl) (fun _ _ _ h => h) (Or.inl ⟨by rfl, ?y21⟩) hHeld ?r21
        case y21 => intro w hSw; clear hSw; go_simp; with_reducible rfl
        simp only [Act.put, List.setIfInBounds_toArray, List.set_cons_zero, List.set_cons_succ]
        refine wpAnyH_take (i := 22) (v := ?v22) (by simp; rfl) (by kernel_rfl) (by kernel_rfl) (by kernel_rfl) (fun _ _ _ h => h) (Or.inl ⟨by rfl, ?y22⟩) hHeld ?r22
        case y22 => intro w hSw; clear hSw; go_simp; with_reducible rfl
        simp only [Act.put, List.setIfInBounds_toArray, List.set_cons_zero, List.set_cons_succ]
        refine wpAnyH_take (i := 23) (v := ?v23) (by simp; rfl) (by kernel_rfl) (by kernel_rfl) (by kernel_rfl) (fun _ _ _ h => h) (Or.inl ⟨by rfl, ?y23⟩) hHeld ?r23
        case y23 => intro w hSw; clear hSw; go_simp; with_reducible rfl
        simp only [Act.put, List.setIfInBounds_toArray, List.set_cons_zero, List.set_cons_succ]
        refine wpAnyH_take (i := 24) (v := ?v24) (by simp; rfl) (by kernel_rfl) (by kernel_rfl) (by kernel_rfl) (fun _ _ _ h => h) (Or.inl ⟨by rfl, ?y24⟩) hHeld ?r24
        case y24 => intro w hSw; clear hSw; go_simp; with_reducible rfl
        simp only [Act.put, List.setIfInBounds_toArray, List.set_cons_zero, List.set_cons_succ]
        refine wpAnyH_done (by kernel_rfl) (NoPanic.normal ?_) _
        go_wp2
        go_ret
        exact ⟨rfl, below_then HB7.out hb9⟩
    · have e1 : ((K : Int) % 64 != 0) = true := by rw [bne_iff_ne]; omega
      cases e3 : (cut.tmod 3 != 0) with
      | false =>
        obtain ⟨qv, qc, qe, hin, hqc, hqn, _⟩ := own_in HR.out.1 HR.out.2.1
        simp only [Value.slice.injEq, true_and] at qe
        obtain ⟨rfl, rfl⟩ := qe
        have HBr : Hid (Below w.heap.size w wr) := HR.out.2.2
        have HYB : Hid (Bytes ys ∧ ys.length = K) := ⟨HR.out.2.1, hin.len⟩
        clear HR HO HB2
        go_wp2_with fail
        refine (marked_any pv K cv ys wr hin hqn hqc (by omega)).mono ?_
        rintro e w3 ⟨g, cap, rfl, hmo, hcap, hb3⟩
        obtain ⟨hin3, h90, h91⟩ := marked_in hmo HYB.out.2 HYB.out.1
        have hb3' : Below w.heap.size w w3 := below_then HBr.out hb3
        have HI3 : Hid (BIn w3 pv K ys) := hin.later hb3
        have HIM : Hid (BIn w3 (some ⟨g, 0, none⟩) K ys ∧ w3.cell? ⟨g, K, none⟩ = some (.int .u8 90) ∧ w3.cell? ⟨g, K + 1, none⟩ = some (.int .u8 90)) := ⟨hin3, h90, h91⟩
        have HB3 : Hid (Below w.heap.size w w3) := hb3'
        clear hin hqc hqn HBr hmo hb3 hb3' hin3 h90 h91
        go_wp2_with fail
        refine (load_odd _ K cap w3 hk (by omega)).mono ?_
        rintro e w4 ⟨rfl, rfl⟩
        go_wp2_with fail
        refine (rload_bad pv K cv w3 (by omega) (by omega)).mono ?_
        rintro e w4 ⟨rfl, rfl⟩
        go_wp2_with fail
        refine (held_any g K cap cv pv ys w3 HIM.out.1 HIM.out.2.1 HIM.out.2.2 hcap (by omega) HI3.out).mono ?_
        rintro e w4 ⟨rfl, nq, rfl⟩
        go_wp2_with fail
        go_region
        go_wp2
        go_ret
        exact ⟨rfl, HB3.out.trans ⟨rfl, rfl, rfl, Nat.le_refl _, fun _ _ => rfl⟩⟩
      | true =>
        have HNw : Hid (∀ j u, (U8 [cut % 256])[j]? = some u → (wr.alloc (.cells #[.int .u8 (cut % 256)] 5)).cell? ((⟨wr.heap.size, 0, none⟩ : Addr).add j) = some u) := cell_one_new _ _ _
        go_wp2_with (at_builtin; refine wpList_append_own _ rfl (.tmp 29) (.tmp 32) 23 rfl w.heap.size 5 i0 (.int .u8 0) 1 1 Try.underlying23 hi hz0 hz1 hz2 rfl (by omega) _ K (U8 ys) rfl (HR.out.1.alloc _) ⟨wr.heap.size, 0, none⟩ 1 1 (U8 [cut % 256]) rfl rfl HNw.out (ones_u8 _) (by unfold maxLen; omega) (by omega) (by have := HR.out.2.2.size; simp; omega) ?_; intro v' w5 hown hgrow _; have HU : Hid (w5.ownsRow w.heap.size 5 1 v' (K + 1) (U8 (ys ++ [cut % 256])) ∧ Bytes (ys ++ [cut % 256]) ∧ Below w.heap.size w w5) := ⟨by rw [show U8 (ys ++ [cut % 256]) = U8 ys ++ U8 [cut % 256] from List.map_append]; exact hown, HR.out.2.1.append (Bytes.cons (by omega) Bytes.nil), (HR.out.2.2.alloc HR.out.2.2.size _).grown hgrow (by have := HR.out.2.2.size; simp; omega) (fun j hj => (HR.out.1.lt j hj).1)⟩; obtain ⟨pv2, cv2, rfl, _⟩ := own_slice hown; clear hown hgrow)
        go_roundw
        case rel => exact ⟨K + 1, _, HU, by omega⟩
        case measure => simp [lenOf]; omega

theorem loads_any (a : Option Addr) (m c : Nat) (xs : List Int) (cut : Int) (w : World) (h : BIn w a m xs) (hmc : m ≤ c) (hac : a = none → c = 0) :
    Calls Try.prog 5 #[.slice a m c, .int .i64 cut] w fun e w' => e = .returned (.bool true) ∧ Below w.heap.size w w' := by
  by_cases hm : m ≤ 20000
  · exact loads_short a m c xs cut w h hmc hac hm
  · exact loads_long a m c xs cut w h hmc hac (by omega)
end Go.Proofs.Ytlidjenkicgldaa
