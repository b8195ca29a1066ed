/-
  Layer 15: WaitsOf.
-/
import Derived.Test.YtkgjmejpbklabaaGreatQa
import Derived.Test.YtkgjmejpbklabaaGreatRx
namespace Go.Proofs.YtkgjmejpbklabaaGreat
open Go.RowKit
open M (Ad wt it)
open K (Lk tix qS)
namespace O
theorem infoUS : (Tryz.prog.info? 37).map (fun i => (i.zero, i.size, i.bytes)) = some (some (.slice none 0 0), 1, 24) := by kernel_rfl
theorem elUS : ElT 49 37 1 24 := by
  obtain ⟨i0, hi, h0, h1, h2⟩ := info_parts infoUS
  exact ⟨Tryz.underlying49, ⟨i0, _, hi, h0, h1, h2, rfl⟩, by decide, by decide⟩
end O
/-- the queues that are listed -/
def QR (W : World) (base : Nat) (q : Nat → List Int) (b : Nat) (vs : List Value) : Prop := ∀ i, i < b → ∃ pz cz, vs[i]? = some (.slice pz (q i).length cz) ∧ W.ownsRow base 44 1 (.slice pz (q i).length cz) (q i).length (U64 (q i))
theorem QR.later {W W' : World} {base b : Nat} {q : Nat → List Int} {vs : List Value} (h : QR W base q b vs) (hb : RowKit.Below W.heap.size W W') : QR W' base q b vs := fun i hi => by
  obtain ⟨pz, cz, h1, h2⟩ := h i hi
  exact ⟨pz, cz, h1, O.own_later h2 hb⟩
theorem QR.add {W W' : World} {base b n n' base' : Nat} {q : Nat → List Int} {vs xs : List Value} {v : Value} {pz : Option Addr} {cz : Nat} (h : QR W base q b vs) (hl : vs.length = b) (ho : W.ownsRow base' 37 1 v n xs) (hk : Kept (fun z => v.ownBlock = some z) W W') (hz : W.ownsRow base 44 1 (.slice pz (q b).length cz) (q b).length (U64 (q b))) (hn : n' = b + 1) : QR W' base q n' (vs ++ [.slice pz (q b).length cz]) := fun i hi => by
  subst hn
  by_cases hib : i < b
  · obtain ⟨p1, c1, h1, h2⟩ := h i hib
    exact ⟨p1, c1, by rw [List.getElem?_append_left (by omega)]; exact h1, O.own_far h2 hk fun g hg e => O.own_ne ho h2 (by decide) e hg⟩
  · obtain rfl : i = b := by omega
    exact ⟨pz, cz, by rw [List.getElem?_append_right (by omega), hl]; simp, O.own_far hz hk fun g hg e => O.own_ne ho hz (by decide) e hg⟩
theorem QR.in {W : World} {base base' b c : Nat} {q : Nat → List Int} {vs : List Value} {p : Option Addr} (h : QR W base q b vs) (ho : W.ownsRow base' 37 1 (.slice p b c) b vs) (hb : 0 < b) : ∃ g, p = some ⟨g, 0, none⟩ ∧ QIn W g b q := by
  obtain ⟨g, c', e, -, hc, -⟩ := O.own_some ho hb
  cases e
  refine ⟨g, rfl, fun i hi => ?_⟩
  obtain ⟨pz, cz, h1, h2⟩ := h i hi
  exact ⟨pz, cz, hc i _ h1, uin_of_own h2⟩
theorem own_lenR {W : World} {base N c : Nat} {p : Option Addr} {es : List Eg} {ty : TypeId} (h : W.ownsRow base ty 4 (.slice p N c) N (ecs es)) : es.length = N := by
  have := h.1
  rw [ecs_len] at this
  omega
set_option maxHeartbeats 2000000 in
set_option maxRecDepth 100000 in
theorem waitsOf_any {w : World} {bl lc mr hi cl : Int} {p : Option Addr} {len cap : Nat} {f : Nat → StV} {g : Nat → List Int} (hs : StIn w p len f g) (hlen : len ≤ 9223372036854775807) :
    Calls Tryz.prog 5 #[M.cfgV bl lc mr hi cl, .slice p len cap] w fun e w' => e = .returned (.bool true) ∧ RowKit.Below w.heap.size w w' := by
  have HS0 : Hid (StIn (w.alloc (M.cfgO bl lc mr hi cl)) p len f g) := hs.later (below_alloc w _)
  clear hs
  go_enter Tryz.func5, Tryz.ntmps5
  go_wp2_with fail
  refine (room_at HS0.out hlen).mono ?_
  obtain ⟨wA, eA⟩ : ∃ wA, w.alloc (M.cfgO bl lc mr hi cl) = wA := ⟨_, rfl⟩
  have HBA : Hid (RowKit.Below w.heap.size w wA) := by rw [← eA]; exact below_alloc w _
  have HCA : Hid (wA.cell? ⟨w.heap.size, 0, none⟩ = some (.int .i64 bl)) := by
    show _ = _
    rw [← eA, cell_of_row _ w.heap.size 0 _ 27 (0, 0) (heap_alloc_new w _)]; rfl
  rw [eA]
  clear eA HS0
  rintro e w1 (⟨rfl, hb1⟩ | ⟨Q, R, n, m, a, k, laid, q, c, rfl, hrs, hrm, hx, hn, hbl⟩)
  · have HB1 : Hid (RowKit.Below w.heap.size w w1) := below_then HBA.out hb1
    clear hb1
    go_wp2_with fail
    refine (awake_at _).mono ?_
    rintro e w2 ⟨rfl, hb2⟩
    have HB2 : Hid (RowKit.Below w.heap.size w w2) := below_then HB1.out hb2
    clear hb2
    go_wp2_with fail
    go_ret
    exact ⟨rfl, HB2.out⟩
  · have HRS : Hid (Rs wA w1 Q R n a k laid m (.slice q m c)) := hrs
    have HRM : Hid (Rm a k laid) := hrm
    obtain ⟨nb, enb⟩ : ∃ nb, k.bl = nb := ⟨_, rfl⟩
    have HNB : Hid (k.bl = nb) := enb
    have ebl : bl = (nb : Int) := by have := hrm.bl; omega
    subst ebl
    have hnb1 : 1 ≤ nb := by have := hrm.lk.b1; omega
    have hnb64 : nb ≤ 64 := by have := hrm.lk.b64; omega
    have HQL : Hid (∀ b : Nat, (qS k.L (b : Int)).length ≤ 100) := fun b => by
      have h1 := (K.qS_sub k.L b).length_le
      rw [hrm.tx] at h1
      have := hrm.len
      omega
    clear hrs hrm hbl enb
    go_wp2_with fail
    refine (awake_at _).mono ?_
    rintro e w2 ⟨rfl, hb2⟩
    have HRS2 : Hid (Rs wA w2 Q R n a k laid m (.slice q m c)) := HRS.out.later hb2
    clear hb2 HRS
    go_wp2_with fail
    go_loopw [9, 10] (fun v9 v W => ∃ (b : Nat) (p9 : Option Addr) (c9 : Nat) (vs : List Value), v9 = .slice p9 b c9 ∧ v = .int .i64 (b : Int) ∧ b ≤ nb ∧ Hid (W.ownsRow w2.heap.size 37 1 (.slice p9 b c9) b vs) ∧ Hid (QR W w2.heap.size (fun b => qS k.L (b : Int)) b vs) ∧ Hid (RowKit.Below w2.heap.size w2 W)) (fun v9 v _ => nb - (intV v).toNat)
    case atStart => exact ⟨0, none, 0, [], rfl, rfl, by omega, World.ownsRow_nil _ _ _ _, fun i hi => by omega, RowKit.Below.refl _ _⟩
    case round =>
      obtain ⟨b, p9, c9, vs, rfl, rfl, hb, HO, HQ, HB⟩ := hrel
      have HRSr : Hid (Rs wA wr Q R n a k laid m (.slice q m c)) := HRS2.out.later HB.out
      have hcb : wr.cell? ⟨w.heap.size, 0, none⟩ = some (.int .i64 (nb : Int)) := (HRSr.out.bel.cell (p := ⟨w.heap.size, 0, none⟩) (cell_lt HCA.out)).trans HCA.out
      by_cases hbn : b < nb
      · go_wp2_with fail
        clear hcb
        refine (r_queue HRSr.out (by omega) (b : Int)).mono ?_
        rintro e w5 ⟨qq, cq, rfl, hoq, -, hb5⟩
        have hsz : w2.heap.size ≤ w5.heap.size := Nat.le_trans HB.out.size hb5.size
        have HO5 : Hid (w5.ownsRow w2.heap.size 37 1 (.slice p9 b c9) b vs) := O.own_later HO.out hb5
        have HQ5 : Hid (QR w5 w2.heap.size (fun b => qS k.L (b : Int)) b vs) := HQ.out.later hb5
        have HQQ : Hid (w5.ownsRow w2.heap.size 44 1 (.slice qq (qS k.L (b : Int)).length cq) (qS k.L (b : Int)).length (U64 (qS k.L (b : Int)))) := B.own_mono hoq HB.out.size
        have HB5 : Hid (RowKit.Below w2.heap.size w2 w5) := below_then HB.out hb5
        have HVL : Hid (vs.length = b) := by have := HO.out.1; show _ = _; omega
        clear hoq hb5 HO HQ HB HRSr
        obtain ⟨Lq, eLq⟩ : ∃ Lq, (qS k.L (b : Int)).length = Lq := ⟨_, rfl⟩
        have HLQ : Hid ((qS k.L (b : Int)).length = Lq) := eLq
        rw [eLq]
        clear eLq
        go_wp2_with (at_builtin; refine O.wpList_agg2 (w := w5) rfl (.tmp 39) (.tmp 43) O.elUS rfl rfl HO5.out [Value.slice qq Lq cq] rfl rfl rfl (fun y hy => by rw [List.mem_singleton.1 hy]; rfl) (by omega) hsz ?_; intro g6 c6 w6 ho hk hv; have HO6 : Hid (w6.ownsRow w2.heap.size 37 1 (.slice (some ⟨g6, 0, none⟩) (b + 1) c6) (b + 1) (vs ++ [Value.slice qq Lq cq])) := ho; have HK6 : Hid (Kept (fun z => (Value.slice p9 b c9).ownBlock = some z) w5 w6) := hk; clear ho hk hv)
        have HQ6 : Hid (QR w6 w2.heap.size (fun b => qS k.L (b : Int)) (b + 1) (vs ++ [Value.slice qq Lq cq])) := by
          show QR _ _ _ _ _
          rw [← HLQ.out]
          exact HQ5.out.add HVL.out HO5.out HK6.out HQQ.out rfl
        have HB6 : Hid (RowKit.Below w2.heap.size w2 w6) := HK6.out.into HB5.out (fun z hz e => by have := (HO5.out.lt z e).1; omega) (Nat.le_refl _)
        clear HK6 HQQ HQ5 HO5 HB5 HVL HLQ
        go_roundw
        case rel => exact ⟨b + 1, some ⟨g6, 0, none⟩, c6, vs ++ [Value.slice qq Lq cq], rfl, by go_num, by omega, HO6, HQ6, HB6⟩
        case measure => simp [intV]; omega
      · obtain rfl : b = nb := by omega
        go_wp2_with fail
        clear hcb hb hbn
        have HQI : Hid (∀ W, RowKit.Below wr.heap.size wr W → 0 < b → ∃ g, p9 = some ⟨g, 0, none⟩ ∧ QIn W g b (fun b => qS k.L (b : Int))) := fun W hW h0 => (HQ.out.later hW).in (O.own_later HO.out hW) h0
        have HBw : Hid (RowKit.Below w.heap.size w wr) := below_then HBA.out HRSr.out.bel
        clear HO HQ HB HRS2 HBA HCA
        refine (r_waiting HRSr.out (by omega)).mono ?_
        rintro e y1 ⟨qw, cw, rfl, how, hrs1, hb1⟩
        have hLw : (wt a.W).length ≤ 100 := by have := HRM.out.la.wlen; simp only [wt, List.length_map]; omega
        have hLi : (it a.I).length ≤ 100 := by have := HRM.out.la.ilen; simp only [it, List.length_map]; omega
        obtain ⟨Lw, eLw⟩ : ∃ Lw, (wt a.W).length = Lw := ⟨_, rfl⟩
        rw [eLw] at how hLw ⊢
        have HUW : Hid (∀ W, RowKit.Below y1.heap.size y1 W → UIn W qw Lw (wt a.W)) := fun W hW => (uin_of_own how).later hW
        have HR1 : Hid (Rs wA y1 Q R n a k laid m (.slice q m c)) := hrs1
        have HY1 : Hid (RowKit.Below wr.heap.size wr y1) := hb1
        clear how hrs1 hb1 HRSr eLw
        go_wp2_with fail
        refine (r_fits HR1.out (by omega)).mono ?_
        rintro e y2 ⟨rfl, hrs2, hb2⟩
        have HR2 : Hid (Rs wA y2 Q R n a k laid m (.slice q m c)) := hrs2
        have HY12 : Hid (RowKit.Below y1.heap.size y1 y2) := hb2
        clear hrs2 hb2 HR1
        go_wp2_with fail
        refine (r_in HR2.out (by omega)).mono ?_
        rintro e y3 ⟨qi, ci, rfl, hoi, hrs3, hb3⟩
        obtain ⟨Li, eLi⟩ : ∃ Li, (it a.I).length = Li := ⟨_, rfl⟩
        rw [eLi] at hoi hLi ⊢
        have HUI : Hid (UIn y3 qi Li (it a.I)) := uin_of_own hoi
        have HUW3 : Hid (UIn y3 qw Lw (wt a.W)) := HUW.out y3 (below_then HY12.out hb3)
        have HR3 : Hid (Rs wA y3 Q R n a k laid m (.slice q m c)) := hrs3
        have HY3 : Hid (RowKit.Below wr.heap.size wr y3) := below_then HY1.out (below_then HY12.out hb3)
        have HQ3 : Hid (0 < b → ∃ g, p9 = some ⟨g, 0, none⟩ ∧ QIn y3 g b (fun b => qS k.L (b : Int))) := HQI.out y3 HY3.out
        have HB3 : Hid (RowKit.Below w.heap.size w y3) := below_then HBw.out HY3.out
        clear hoi hrs3 hb3 HR2 HUW HY12 HY1 HY3 HQI HBw eLi
        go_wp2_with fail
        refine (rof_at a.fits HUW3.out HUI.out HQ3.out hLw hLi hnb64 HQL.out).mono ?_
        rintro e y4 ⟨pw, Nw, cw4, rfl, how4, hb4⟩
        obtain ⟨es, ees⟩ : ∃ es, ofR a k 64 = es := ⟨_, rfl⟩
        have hwes : ofS (wt a.W) a.fits (it a.I) (fun b => qS k.L (b : Int)) b = es := by
          rw [← ees, HRM.out.of64 (by have := HNB.out; omega), HNB.out]
          rfl
        rw [hwes] at how4
        have hNw : Nw ≤ 4500 := by
          have h1 := own_lenR how4
          have h2 := HRM.out.elen (m := 61) (by omega) (n := 64)
          rw [ees] at h2
          omega
        have HOW : Hid (∀ W, RowKit.Below y4.heap.size y4 W → EIn W pw Nw es) := fun W hW => (EIn.of_ownR how4).later hW
        have HWB : Hid (∀ ad, pw = some ad → 0 < Nw → ad.block < y4.heap.size) := fun ad e h0 => by
          subst e
          exact (EIn.of_ownR how4).lt h0
        have HNW : Hid (es.length = Nw) := own_lenR how4
        have HR4 : Hid (Rs wA y4 Q R n a k laid m (.slice q m c)) := HR3.out.later hb4
        have HB4 : Hid (RowKit.Below w.heap.size w y4) := below_then HB3.out hb4
        clear how4 hb4 hwes HUI HUW3 HQ3 HR3 HB3
        go_wp2_with fail
        refine (of_at HR4.out HRM.out (by omega) (by omega)).mono ?_
        rintro e y5 ⟨pa, Na, ca, rfl, hoa, -, hb5⟩
        rw [ees] at hoa
        have hNa : Na = Nw := by have h1 := own_lenR hoa; have h2 := HNW.out; omega
        subst hNa
        have HOA : Hid (y5.ownsRow y4.heap.size 46 4 (.slice pa Na ca) Na (ecs es)) := hoa
        have HR5 : Hid (Rs wA y5 Q R n a k laid m (.slice q m c)) := HR4.out.later hb5
        have HY5 : Hid (RowKit.Below y4.heap.size y4 y5) := hb5
        clear hoa hb5 HR4
        go_wp2_with fail
        refine (of_at HR5.out HRM.out (by omega) (by omega)).mono ?_
        rintro e y6 ⟨pb, Nb, cb, rfl, hob, -, hb6⟩
        rw [ees] at hob
        have hNb : Nb = Na := by have h1 := own_lenR hob; have h2 := HNW.out; omega
        subst hNb
        have HOB : Hid (y6.ownsRow y5.heap.size 46 4 (.slice pb Nb cb) Nb (ecs es)) := hob
        have HOA6 : Hid (y6.ownsRow y4.heap.size 46 4 (.slice pa Nb ca) Nb (ecs es) ∧ ∀ z, (Value.slice pa Nb ca).ownBlock = some z → z < y5.heap.size) := ⟨O.own_later HOA.out hb6, fun z hz => (HOA.out.lt z hz).2⟩
        have HY6 : Hid (RowKit.Below y4.heap.size y4 y6) := below_then HY5.out hb6
        have hs45 : y4.heap.size ≤ y5.heap.size := HY5.out.size
        clear hob hb6 HR5 HOA HY5 ees
        go_wp2_with fail
        refine (sameE_is (EIn.of_own HOA6.out.1) (HOW.out y6 HY6.out) (by omega)).mono ?_
        rintro e z1 ⟨rfl, k1, hz1⟩
        have HZ1 : Hid (RowKit.Below y6.heap.size y6 z1) := by rw [hz1]; exact below_dr _ _ k1
        clear hz1
        go_wp2_with fail
        refine (sameE_is ((EIn.of_own HOB.out).later HZ1.out) (HOW.out z1 (below_then HY6.out HZ1.out)) (by omega)).mono ?_
        rintro e z2 ⟨rfl, k2, hz2⟩
        have HZ2 : Hid (RowKit.Below y6.heap.size y6 z2) := by rw [hz2]; exact HZ1.out.trans (below_dr _ _ k2)
        have HOBz : Hid (z2.ownsRow y5.heap.size 46 4 (.slice pb Nb cb) Nb (ecs es)) := O.own_later HOB.out HZ2.out
        have HOAz : Hid (z2.ownsRow y4.heap.size 46 4 (.slice pa Nb ca) Nb (ecs es)) := O.own_later HOA6.out.1 HZ2.out
        have HAB : Hid (∀ z, (Value.slice pa Nb ca).ownBlock = some z → z < y5.heap.size) := HOA6.out.2
        have HBz : Hid (RowKit.Below w.heap.size w z2) := below_then HB4.out (below_then HY6.out HZ2.out)
        have HYz : Hid (RowKit.Below y4.heap.size y4 z2) := below_then HY6.out HZ2.out
        have hsw : w.heap.size ≤ y4.heap.size := HB4.out.size
        clear hz2 HZ1 HZ2 HOB HOA6 HY6 HB4
        generalize y4.heap.size = s4 at *
        generalize y5.heap.size = s5 at *
        go_wp2_with fail
        go_loopw [83] (fun v W => ∃ (j : Nat) (xs : List Value), v = .int .i64 (j : Int) ∧ j ≤ Nb ∧ Hid (W.ownsRow s5 46 4 (.slice pb Nb cb) Nb xs) ∧ Hid (Kept (fun z => (Value.slice pb Nb cb).ownBlock = some z) z2 W)) (fun v _ => Nb - (intV v).toNat)
        case atStart => exact ⟨0, _, rfl, by omega, HOBz, Kept.refl _ _⟩
        case round =>
          obtain ⟨j, xs, rfl, hj, HXI, HKI⟩ := hrel
          by_cases hjn : j < Nb
          · obtain ⟨gm, cm, em, hcm, hcell, hfr⟩ := O.own_some HXI.out (by omega)
            cases em
            have hxl : xs.length = Nb * 4 := HXI.out.1
            have hc0 : wr.cell? ⟨gm, j * 4, none⟩ = some xs[j * 4] := O.own_cell HXI.out (by rw [List.getElem?_eq_getElem (by omega)])
            have hc1 : wr.cell? ⟨gm, j * 4 + 1, none⟩ = some xs[j * 4 + 1] := O.own_cell HXI.out (by rw [List.getElem?_eq_getElem (by omega)])
            have hc2 : wr.cell? ⟨gm, j * 4 + 2, none⟩ = some xs[j * 4 + 2] := O.own_cell HXI.out (by rw [List.getElem?_eq_getElem (by omega)])
            have hc3 : wr.cell? ⟨gm, j * 4 + 3, none⟩ = some xs[j * 4 + 3] := O.own_cell HXI.out (by rw [List.getElem?_eq_getElem (by omega)])
            have hf0 := hfr (j * 4)
            have hf1 := hfr (j * 4 + 1)
            have hf2 := hfr (j * 4 + 2)
            have hf3 := hfr (j * 4 + 3)
            generalize xs[j * 4] = x0 at hc0
            generalize xs[j * 4 + 1] = x1 at hc1
            generalize xs[j * 4 + 2] = x2 at hc2
            generalize xs[j * 4 + 3] = x3 at hc3
            clear hxl hcell hfr hcm
            go_wp2_with fail
            go_roundw
            case rel => exact ⟨j + 1, _, rfl, by omega, O.own_set (O.own_set (O.own_set (O.own_set HXI.out rfl _ _) rfl _ _) rfl _ _) rfl _ _, (((HKI.out.trans (Kept.setCell gm _ _) fun z _ h => by rw [h]; rfl).trans (Kept.setCell gm _ _) fun z _ h => by rw [h]; rfl).trans (Kept.setCell gm _ _) fun z _ h => by rw [h]; rfl).trans (Kept.setCell gm _ _) fun z _ h => by rw [h]; rfl⟩
            case measure => simp [intV]; omega
          · have HA9 : Hid (EIn wr pa Nb es) := EIn.of_own (O.own_far HOAz.out HKI.out fun z hz e => by
              have h1 := HAB.out z hz
              have h2 := (HOBz.out.lt z e).1
              omega)
            have HW9 : Hid (EIn wr pw Nb es) := (HOW.out z2 HYz.out).far HKI.out fun ad e h0 hz => by
              have h1 := HWB.out ad e h0
              have h2 := (HOBz.out.lt _ hz).1
              omega
            have HB9 : Hid (RowKit.Below w.heap.size w wr) := HKI.out.into HBz.out (fun z hz e => by have := (HOBz.out.lt z e).1; omega) (Nat.le_refl _)
            clear HXI HKI HOAz HOBz
            go_wp2_with fail
            refine (sameE_is HA9.out HW9.out (by omega)).mono ?_
            rintro e z9 ⟨rfl, k9, hz9⟩
            have HZ9 : Hid (RowKit.Below w.heap.size w z9) := by rw [hz9]; exact HB9.out.trans (below_dr _ _ k9)
            clear hz9
            go_wp2_with fail
            go_ret
            exact ⟨rfl, HZ9.out⟩
end Go.Proofs.YtkgjmejpbklabaaGreat
