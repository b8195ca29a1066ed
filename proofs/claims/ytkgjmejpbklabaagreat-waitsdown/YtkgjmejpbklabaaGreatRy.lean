/-
  Layer 15: WaitsDown.
-/
import Derived.Test.YtkgjmejpbklabaaGreatRx
import Derived.BigQuiet
namespace Go.Proofs.YtkgjmejpbklabaaGreat
open Go.RowKit
open M (Ad wt it)
open K (Lk tix qS)
theorem own_len {W : World} {base N c : Nat} {p : Option Addr} {es : List Eg} (h : W.ownsRow base 46 4 (.slice p N c) N (ecs es)) : es.length = N := by
  have := h.1
  rw [ecs_len] at this
  omega
theorem freS_one {es : List Eg} {x : Int} (h : ∀ e ∈ es, e.f ≠ x) : (freS es [x]).length = 1 := by
  have : es.any (fun e => e.f == x) = false := by
    rw [List.any_eq_false]
    intro e he
    simpa using h e he
  simp [freS, this]
/-- the least of the first j -/
def Lea (l : List Int) (j : Nat) (x : Int) : Prop := x ∈ l ∧ ∀ y ∈ l.take j, x ≤ y
theorem Lea.step {l : List Int} {j : Nat} {x : Int} (h : Lea l j x) (hj : j < l.length) : Lea l (j + 1) (min x (l.getD j 0)) := by
  have e : l.take (j + 1) = l.take j ++ [l.getD j 0] := by
    rw [List.take_add_one, List.getElem?_eq_getElem hj]
    simp [List.getD, List.getElem?_eq_getElem hj]
  refine ⟨?_, fun y hy => ?_⟩
  · by_cases hc : x ≤ l.getD j 0
    · rw [show min x (l.getD j 0) = x by omega]; exact h.1
    · rw [show min x (l.getD j 0) = l.getD j 0 by omega]; exact getD_in hj
  · rw [e] at hy
    rcases List.mem_append.1 hy with hy | hy
    · have := h.2 y hy; omega
    · rw [List.mem_singleton.1 hy]; omega
set_option maxHeartbeats 2000000 in
set_option maxRecDepth 100000 in
theorem waitsDown_any {w : World} {bl lc mr hi cl : Int} {p : Option Addr} {len cap : Nat} {f : Nat → StV} {g : Nat → List Int} (hs : StIn w p len f g) (hlen : len ≤ 9223372036854775807) :
    Calls Tryz.prog 4 #[M.cfgV bl lc mr hi cl, .slice p len cap] w fun e w' => e = .returned (.bool true) ∧ RowKit.Below w.heap.size w w' := by
  have HS0 : Hid (StIn (w.alloc (M.cfgO bl lc mr hi cl)) p len f g) := hs.later (below_alloc w _)
  clear hs
  go_enter Tryz.func4, Tryz.ntmps4
  go_wp2_with fail
  refine (room_at HS0.out hlen).mono ?_
  obtain ⟨wA, eA⟩ : ∃ wA, w.alloc (M.cfgO bl lc mr hi cl) = wA := ⟨_, rfl⟩
  have HBA : Hid (RowKit.Below w.heap.size w wA) := by rw [← eA]; exact below_alloc w _
  rw [eA]
  clear eA HS0
  rintro e w1 (⟨rfl, hb1⟩ | ⟨Q, R, n, m, a, k, laid, q, c, rfl, hrs, hrm, hx, hn, -⟩)
  · have HB1 : Hid (RowKit.Below w.heap.size w w1) := below_then HBA.out hb1
    clear hb1
    go_wp2_with fail
    refine (awake_at _).mono ?_
    rintro e w2 ⟨rfl, hb2⟩
    have HB2 : Hid (RowKit.Below w.heap.size w w2) := below_then HB1.out hb2
    clear hb2
    go_wp2_with fail
    go_ret
    exact ⟨rfl, HB2.out⟩
  · have HRS : Hid (Rs wA w1 Q R n a k laid m (.slice q m c)) := hrs
    have HRM : Hid (Rm a k laid) := hrm
    clear hrs hrm
    go_wp2_with fail
    refine (awake_at _).mono ?_
    rintro e w2 ⟨rfl, hb2⟩
    have HRS2 : Hid (Rs wA w2 Q R n a k laid m (.slice q m c)) := HRS.out.later hb2
    clear hb2 HRS
    go_wp2_with fail
    refine (of_at HRS2.out HRM.out (by omega) (by omega)).mono ?_
    rintro e w3 ⟨pe, N, ce, rfl, hoe, -, hb3⟩
    have HRS3 : Hid (Rs wA w3 Q R n a k laid m (.slice q m c)) := HRS2.out.later hb3
    have HOE : Hid (w3.ownsRow w2.heap.size 46 4 (.slice pe N ce) N (ecs (ofR a k 64))) := hoe
    have hN : N ≤ 4500 := by
      have h1 := own_len hoe
      have h2 := HRM.out.elen (m := 61) (by omega) (n := 64)
      omega
    have HDN : Hid (∀ e ∈ ofR a k 64, e.t < e.f ∧ 0 < e.t ∧ UW e.f ∧ UW e.t ∧ ∃ u ∈ laid ++ wt a.W, u < e.f) := fun e he => by
      obtain ⟨h1, h2, h3, h4⟩ := HRM.out.down he
      exact ⟨h1, h2, u64_of (by omega) (by omega), u64_of (by omega) (by omega), h4⟩
    have HNO : Hid (laid ++ wt a.W = [] → ofR a k 64 = []) := fun e => HRM.out.none e 64
    clear hoe hb3 HRS2
    obtain ⟨es, ees⟩ : ∃ es, ofR a k 64 = es := ⟨_, rfl⟩
    rw [ees] at HOE HDN HNO
    clear ees
    have HEN : Hid (es.length = N) := own_len HOE.out
    have HRB : Hid (RowKit.Below wA.heap.size wA w3) := HRS3.out.bel
    have HE3 : Hid (∀ W, RowKit.Below w3.heap.size w3 W → EIn W pe N es) := fun W hW => (EIn.of_own HOE.out).later hW
    clear HOE
    go_wp2_with fail
    refine (ring_down (HE3.out w3 (RowKit.Below.refl _ _)) hN (fun e he => (HDN.out e he).1)).mono ?_
    rintro e w4 ⟨q4, c4, rfl, hb4⟩
    have HB4 : Hid (RowKit.Below w3.heap.size w3 w4) := hb4
    clear hb4
    go_wp2_with fail
    go_loopw [52] (fun v W => ∃ (j : Nat), v = .int .i64 (j : Int) ∧ j ≤ N ∧ Hid (RowKit.Below w3.heap.size w3 W)) (fun v _ => N - (intV v).toNat)
    case atStart => exact ⟨0, rfl, by omega, HB4⟩
    case round =>
      clear HB4
      obtain ⟨j, rfl, hj, HB⟩ := hrel
      by_cases hjn : j < N
      · obtain ⟨eb, eo, ep, hcs⟩ := (HE3.out wr HB.out).cells (by omega)
        subst ep
        obtain ⟨h1, h2, h3, h4⟩ := hcs j hjn
        have hme := (es_get HEN.out hjn).2
        obtain ⟨hd1, hd2, -, -, -⟩ := HDN.out _ hme
        clear hcs hme
        generalize es.getD j noEg = ed at *
        obtain ⟨ef, et, ey, ebk⟩ := ed
        simp only at h1 h2 h3 h4 hd1 hd2
        have hz0 : (et == 0) = false := by rw [beq_eq_false_iff_ne]; omega
        have HB5 : Hid (RowKit.Below w3.heap.size w3 (wr.alloc (Obj.cells #[Value.int .u64 ef, .int .u64 et, .int .i64 ey, .int .i64 ebk] 46))) := below_then HB.out (below_alloc _ _)
        have hge : ¬ ef ≤ et := by omega
        go_wp2_with fail
        go_roundw
        case rel => exact ⟨j + 1, rfl, by omega, HB5⟩
        case measure => simp [intV]; omega
      · go_wp2_with fail
        refine (heights_down (HE3.out wr HB.out) hN (fun e he => ⟨(HDN.out e he).2.2.1, (HDN.out e he).2.2.2.1⟩) (fun e he => (HDN.out e he).1)).mono ?_
        rintro e w5 ⟨mb, NM, rfl, hM, -, hb5⟩
        have HM5 : Hid (HM w5 mb NM es) := hM
        have HB5 : Hid (RowKit.Below w3.heap.size w3 w5) := below_then HB.out hb5
        clear hM hb5 hjn hj
        go_wp2_with fail
        go_loopw [76] (fun v W => ∃ (j : Nat), v = .int .i64 (j : Int) ∧ j ≤ N ∧ Hid (RowKit.Below w5.heap.size w5 W)) (fun v _ => N - (intV v).toNat)
        case atStart => exact ⟨0, rfl, by omega, RowKit.Below.refl _ _⟩
        case round =>
          clear HB
          obtain ⟨j, rfl, hj, HB⟩ := hrel
          by_cases hjn : j < N
          · obtain ⟨eb, eo, ep, hcs⟩ := (HE3.out wr (below_then HB5.out HB.out)).cells (by omega)
            subst ep
            obtain ⟨h1, h2, h3, h4⟩ := hcs j hjn
            have hme := (es_get HEN.out hjn).2
            have hB6 : RowKit.Below w5.heap.size w5 (wr.alloc (Obj.cells #[Value.int .u64 (es.getD j noEg).f, .int .u64 (es.getD j noEg).t, .int .i64 (es.getD j noEg).y, .int .i64 (es.getD j noEg).b] 46)) := below_then HB.out (below_alloc _ _)
            obtain ⟨x, y, g1, g2, hxy⟩ := (HM5.out.later hB6).get hme
            have HB6 : Hid (RowKit.Below w5.heap.size w5 (wr.alloc (Obj.cells #[Value.int .u64 (es.getD j noEg).f, .int .u64 (es.getD j noEg).t, .int .i64 (es.getD j noEg).y, .int .i64 (es.getD j noEg).b] 46))) := hB6
            clear hcs hme hB6
            generalize es.getD j noEg = ed at *
            obtain ⟨ef, et, ey, ebk⟩ := ed
            simp only at h1 h2 h3 h4 g1 g2 HB6
            have hle : ¬ (x : Int) ≤ (y : Int) := by omega
            go_wp2_with fail
            go_roundw
            case rel => exact ⟨j + 1, rfl, by omega, HB6⟩
            case measure => simp [intV]; omega
          · have HB7 : Hid (RowKit.Below w3.heap.size w3 wr) := below_then HB5.out HB.out
            have HW3 : Hid (w3.heap.size ≤ wr.heap.size) := HB7.out.size
            have HRS7 : Hid (Rs wA wr Q R n a k laid m (.slice q m c)) := HRS3.out.later HB7.out
            have HLA : Hid (UIn (wr.alloc (Obj.cells #[] 44)) q m laid) := (uin_of_own HRS7.out.own).later (below_alloc _ _)
            have HPC : Hid (q = none → c = 0) := by
              have h1 := HRS7.out.own
              intro e
              subst e
              obtain ⟨_, h2⟩ := h1
              rcases h2 with h2 | h2
              · cases h2.1; rfl
              · obtain ⟨g, cp, cur, h3, _⟩ := h2; cases h3
            have HO0 : Hid ((wr.alloc (Obj.cells #[] 44)).ownsRow wr.heap.size 44 1 (.slice (some ⟨wr.heap.size, 0, none⟩) 0 0) 0 []) := O.own_empty wr (Nat.le_refl _)
            have hml : m ≤ 100 := by
              have h1 := HRS7.out.len
              have h2 := HRM.out.len
              omega
            have hsA : wr.heap.size ≤ (wr.alloc (Obj.cells #[] 44)).heap.size := by simp
            clear HB HB5 HM5 HRS3
            go_wp2_with (at_builtin; refine O.wpList_tickets rfl (.tmp 90) (.tmp 91) rfl rfl HO0.out rfl HLA.out HPC.out (by omega) hsA ?_; intro v1 wa ho1 hk1 _; have HBa : Hid (RowKit.Below wr.heap.size wr wa) := hk1.into (below_alloc wr _) (fun b hb e => by have := (HO0.out.lt b e).1; omega) (Nat.le_refl _); have HO1 : Hid (wa.ownsRow wr.heap.size 44 1 v1 (0 + m) ([] ++ U64 laid)) := ho1; clear ho1 hk1)
            clear hjn hj
            have HRSa : Hid (Rs wA wa Q R n a k laid m (.slice q m c)) := HRS7.out.later HBa.out
            have HBa3 : Hid (RowKit.Below w3.heap.size w3 wa) := below_then HB7.out HBa.out
            have hsa : wr.heap.size ≤ wa.heap.size := HBa.out.size
            clear HRS7 HLA HPC HO0 HB7
            refine (r_waiting HRSa.out (by omega)).mono ?_
            rintro e wb ⟨qw, cw, rfl, how, -, hbb⟩
            have hLw : (wt a.W).length ≤ 100 := by have := HRM.out.la.wlen; simp only [wt, List.length_map]; omega
            obtain ⟨Lw, eLw⟩ : ∃ Lw, (wt a.W).length = Lw := ⟨_, rfl⟩
            have HLW : Hid ((wt a.W).length = Lw) := eLw
            have HLM : Hid (laid.length = m) := HRSa.out.len
            rw [eLw] at how hLw ⊢
            have HUW : Hid (UIn wb qw Lw (wt a.W)) := uin_of_own how
            have HPW : Hid (qw = none → cw = 0) := by
              intro e
              subst e
              obtain ⟨_, h2⟩ := how
              rcases h2 with h2 | h2
              · cases h2.1; rfl
              · obtain ⟨g, cp, cur, h3, _⟩ := h2; cases h3
            have HO1b : Hid (wb.ownsRow wr.heap.size 44 1 v1 (0 + m) ([] ++ U64 laid)) := O.own_later HO1.out hbb
            have HBb3 : Hid (RowKit.Below w3.heap.size w3 wb) := below_then HBa3.out hbb
            have hsb : wr.heap.size ≤ wb.heap.size := Nat.le_trans hsa hbb.size
            have hs3 : w3.heap.size ≤ wr.heap.size := HW3.out
            clear how hbb HO1 HBa3 HRSa eLw HBa
            go_upto_region 23 with (at_builtin; refine O.wpList_tickets rfl (.tmp 92) (.tmp 94) rfl rfl HO1b.out rfl HUW.out HPW.out (by omega) hsb ?_; intro v2 wd ho2 hk2 _; have HBd : Hid (RowKit.Below w3.heap.size w3 wd) := hk2.into HBb3.out (fun b hb e => by have := (HO1b.out.lt b e).1; omega) (Nat.le_refl _); have HO2 : Hid (wd.ownsRow wr.heap.size 44 1 v2 (0 + m + Lw) ([] ++ U64 laid ++ U64 (wt a.W))) := ho2; clear ho2 hk2)
            obtain ⟨al, eal⟩ : ∃ al, laid ++ wt a.W = al := ⟨_, rfl⟩
            have hM0 : 0 + m + Lw = al.length := by
              have h1 := HLW.out
              have h2 := HLM.out
              rw [← eal, List.length_append]; omega
            have HO3 : Hid (wd.ownsRow wr.heap.size 44 1 v2 al.length (U64 al)) := by
              have := HO2.out
              rw [hM0, List.nil_append, ← List.map_append, eal] at this
              exact this
            have hM : al.length ≤ 200 := by omega
            have HAP : Hid (∀ t ∈ al, UW t) := fun t ht => by
              rw [← eal] at ht
              have hg := HRM.out.la.gotN
              have hg0 := HRM.out.la.got0
              rcases List.mem_append.1 ht with ht | ht
              · have := HRM.out.pos t ht; exact u64_of (by omega) (by omega)
              · have := HRM.out.wpos t ht; exact u64_of (by omega) (by omega)
            rw [eal] at HNO HDN
            obtain ⟨qA, cA, eA, -, -⟩ := O.own_form HO3.out
            subst eA
            clear HO2 HO1b HUW HPW hM0 eal HBb3 HLW HLM
            obtain ⟨M, eM⟩ : ∃ M, al.length = M := ⟨_, rfl⟩
            have HAL : Hid (al.length = M) := eM
            rw [eM] at HO3 hM ⊢
            have HUA : Hid (∀ W, RowKit.Below wd.heap.size wd W → UIn W qA M al) := fun W hW => (uin_of_own HO3.out).later hW
            clear eM HO3
            by_cases hM0 : M = 0
            · have hal : al = [] := List.eq_nil_of_length_eq_zero (by have := HAL.out; omega)
              have hes := HNO.out hal
              have hN0 : N = 0 := by have := HEN.out; rw [hes] at this; exact this.symm
              rw [hM0, hN0]
              clear hal hes hM0 hN0 hM
              go_wp2_with fail
              go_ret
              exact ⟨rfl, below_then (below_then HBA.out HRB.out) HBd.out⟩
            · obtain ⟨ab, ao, ep, hcs⟩ := (HUA.out wd (RowKit.Below.refl _ _)).cells (by omega)
              subst ep
              have h0 := hcs 0 (by omega)
              rw [Nat.add_zero] at h0
              have HL0 : Hid (Lea al 0 (al.getD 0 0)) := ⟨getD_in (by have := HAL.out; omega), fun y hy => by simp at hy⟩
              clear hcs
              generalize al.getD 0 0 = x0 at *
              go_wp2_with fail
              clear h0
              go_loopw [17, 107] (fun v17 v W => ∃ (j : Nat) (x : Int), v17 = .int .u64 x ∧ v = .int .i64 (j : Int) ∧ j ≤ M ∧ Hid (Lea al j x) ∧ W = wd) (fun v17 v _ => M - (intV v).toNat)
              case atStart => exact ⟨0, x0, rfl, rfl, by omega, HL0, rfl⟩
              case round =>
                clear HL0
                obtain ⟨j, x, rfl, rfl, hj, HLE, hwd⟩ := hrel
                have hwd2 := hwd.symm
                clear hwd
                subst hwd2
                by_cases hjM : j < M
                · obtain ⟨ab', ao', ep, hcs⟩ := (HUA.out wd (RowKit.Below.refl _ _)).cells (by omega)
                  cases ep
                  have h1 := hcs j hjM
                  have HLE2 : Hid (Lea al (j + 1) (min x (al.getD j 0))) := HLE.out.step (by have := HAL.out; omega)
                  clear hcs
                  generalize al.getD j 0 = tj at *
                  go_wp2_with fail
                  go_roundw
                  case rel => exact ⟨j + 1, min x tj, rfl, rfl, by omega, HLE2, trivial⟩
                  case measure => simp [intV]; omega
                · have HX : Hid (∀ y ∈ al, x ≤ y) := fun y hy => HLE.out.2 y (by
                    rw [List.take_of_length_le (by have := HAL.out; omega)]; exact hy)
                  have HFR : Hid ((freS es [x]).length = 1) := freS_one fun e he hc => by
                    obtain ⟨-, -, -, -, u, hu, hlt⟩ := HDN.out e he
                    have := HX.out u hu
                    omega
                  have hux : UW x := HAP.out x HLE.out.1
                  have HUX : Hid (UIn (wd.alloc (Obj.cells #[Value.int .u64 x] 44)) (some ⟨wd.heap.size, 0, none⟩) 1 [x]) := uin_of_own (O.own_one (base := 0) (e := 44) (size := 1) (cs := [Value.int .u64 x]) wd rfl (Nat.zero_le _))
                  have HEX : Hid (EIn (wd.alloc (Obj.cells #[Value.int .u64 x] 44)) pe N es) := HE3.out _ (below_then HBd.out (below_alloc _ _))
                  clear HLE HX
                  go_wp2_with fail
                  refine (free_at HEX.out (by omega) (fun e he => (HDN.out e he).2.2.1) HUX.out (by omega) (fun t ht => by rw [List.mem_singleton.1 ht]; exact hux)).mono ?_
                  rintro e wz ⟨rz, cz, rfl, -, hbz⟩
                  rw [HFR.out]
                  have HBZ : Hid (RowKit.Below w.heap.size w wz) := below_then (below_then (below_then HBA.out HRB.out) (below_then HBd.out (below_alloc _ _))) hbz
                  clear hbz
                  go_wp2_with fail
                  go_ret
                  exact ⟨rfl, HBZ.out⟩
end Go.Proofs.YtkgjmejpbklabaaGreat
