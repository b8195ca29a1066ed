/-
  Layer 17: Drop.
-/
import Derived.Test.YthcpnfelnonhnaaDoorPf
namespace Go.Proofs.YthcpnfelnonhnaaDoor
open Go.RowKit

section
variable {w w' : World} {Q : Nat} {n nx : Int} {ve : Value} {L : List En}
theorem EIn.far {S : Nat → Prop} {p : Option Addr} {m : Nat} {l : List En} (h : EIn w p m l) (hk : Kept S w w') (hs : ∀ a, p = some a → 0 < m → ¬ S a.block) : EIn w' p m l := by
  refine ⟨h.len, h.wf, fun h0 => ?_⟩
  obtain ⟨b, o, e, hr⟩ := h.cells h0
  exact ⟨b, o, e, range_block hr (hk.block b (range_lt hr (by rw [EC_len h.wf, h.len]; omega)) (hs _ e h0))⟩
theorem take_snocE {l : List En} {k : Nat} {x : En} (hx : l[k]? = some x) : l.take (k + 1) = l.take k ++ [x] := by
  obtain ⟨hk', ex⟩ := List.getElem?_eq_some_iff.1 hx
  rw [List.take_succ_eq_append_getElem hk', ex]
theorem drpsN_le (L l : List En) : drpsN L l ≤ L.length := by have := drps_len L l; omega
set_option maxHeartbeats 2000000 in
set_option maxRecDepth 100000 in
theorem drop_call (h : CAt w Q n ve L nx) (hk : Okc n L nx) {p : Option Addr} {m c : Nat} {l : List En} (hM : EIn w p m l) (hm : m ≤ 140737488355328) (hsep : ∀ a, p = some a → 0 < m → ¬ (a.block = Q ∨ ve.ownBlock = some a.block)) :
    Calls Tryd.prog 18 #[.pointer (some ⟨Q, 0, none⟩), .slice p m c] w fun e w' => e = .returned (.int .i64 (drpsN L l : Int)) ∧ ∃ ve', Wrt w w' Q n ve ve' (drps L l) nx := by
  have HK : Hid (Okc n L nx) := hk
  have HM : Hid (EIn w p m l) := hM
  have HL : Hid (l.length = m) := hM.len
  have HA : Hid (CAt w Q n ve L nx) := h
  have HSP : Hid (∀ a, p = some a → 0 < m → ¬ (a.block = Q ∨ ve.ownBlock = some a.block)) := hsep
  have hfew := hk.few
  clear h hk hM hsep
  go_enter Tryd.func18, Tryd.ntmps18
  go_wp2_with fail
  go_loopw [12, 5] (fun v v2 W => ∃ (k t : Nat) (ve' : Value), v = .int .i64 (k : Int) ∧ v2 = .int .i64 (t : Int) ∧ k ≤ m ∧ t ≤ 64 ∧ Hid (t = drpsN L (l.take k)) ∧ Hid (Wrt w W Q n ve ve' (drps L (l.take k)) nx)) (fun v _ _ => m - (intOf v).toNat)
  case atStart => exact ⟨0, 0, ve, rfl, rfl, by omega, by omega, (rfl : 0 = drpsN L (l.take 0)), (Wrt.refl HA.out : Wrt w w Q n ve ve (drps L (l.take 0)) nx)⟩
  case round =>
    obtain ⟨k, t, ve', rfl, rfl, hk, ht, HT, HW⟩ := hrel
    by_cases hlt : k < m
    · obtain ⟨x, hx⟩ : ∃ x, l[k]? = some x := ⟨_, List.getElem?_eq_getElem (by rw [HL.out]; omega)⟩
      obtain ⟨b1, o1, e1, -⟩ := HM.out.cells (by omega)
      have hMr : EIn wr p m l := HM.out.far HW.out.kept HSP.out
      subst e1
      have hxw : x.Wf := hMr.wf x (List.mem_of_getElem? hx)
      have HTK : Hid (l.take (k + 1) = l.take k ++ [x]) := take_snocE hx
      have HOK : Hid (Okc n (drps L (l.take k)) nx) := HK.out.drops _
      have HLd : Hid ((Instr.loadAt 57 (.pointer (some ⟨b1, o1 + k * 34, none⟩))).run Tryd.prog wr = .ok (.agg (ecells x).toArray) wr) := EIn.load etC hMr hx
      obtain ⟨w3, hw3⟩ : ∃ w3, w3 = wr.alloc (.cells (ecells en0).toArray 57) := ⟨_, rfl⟩
      obtain ⟨w4, hw4⟩ : ∃ w4, w4 = wr.alloc (.cells (ecells x).toArray 57) := ⟨_, rfl⟩
      have HAL : Hid ((Instr.alloc 57 true (.tuple #[])).run Tryd.prog wr = .ok (.pointer (some ⟨wr.heap.size, 0, none⟩)) w3) := by rw [hw3]; exact allocE etC wr
      have HST : Hid ((Instr.storeAt 57 (.pointer (some ⟨wr.heap.size, 0, none⟩)) (.agg (ecells x).toArray)).run Tryd.prog w3 = .ok () w4) := by rw [hw3, hw4]; exact store_newE etC wr x hxw.len
      have b4 : Below wr.heap.size wr w4 := by rw [hw4]; exact below_alloc wr _
      have l4 : LAt 57 w4 wr.heap.size (ecells x) := by rw [hw4]; exact LAt.new _ _ _
      have HL4 : Hid (LAt 57 w4 wr.heap.size (ecells x)) := l4
      have HXL : Hid (x.v.length = 32) := hxw.len
      have HW4 : Hid (Wrt w w4 Q n ve ve' (drps L (l.take k)) nx) := HW.out.later b4
      have z0 : w4.cell? ⟨wr.heap.size, 0, none⟩ = some (.int .i64 x.b) := LAt.cell l4 0
      have i1 : (k : Int) < (m : Int) := by omega
      clear hw3 hw4 b4 l4 hxw hx hMr HW
      obtain ⟨D, hD⟩ : ∃ D, D = drps L (l.take k) := ⟨_, rfl⟩
      have HD1 : Hid (drps L (l.take (k + 1)) = drpE D x) := by show _ = _; rw [HTK.out, drps_snoc, hD]
      have HD2 : Hid (drpsN L (l.take (k + 1)) = t + drpN D x) := by show _ = _; rw [HTK.out, drpsN_snoc, hD, HT.out]
      rw [← hD] at HW4 HOK
      have hfD := HOK.out.few
      have HT64 : Hid (drpsN L (l.take (k + 1)) ≤ 64) := Nat.le_trans (drpsN_le _ _) hfew
      clear hD HTK HT
      go_wp2_with ((with_reducible refine at_ops ?_); (first | ((first | (refine wpList_load_is (by rfl) 57 rfl rfl HLd.out ?_) | (refine wpList_alloc_is (by rfl) 57 rfl HAL.out ?_)); simp only [Act.put, List.setIfInBounds_toArray, List.set_cons_zero, List.set_cons_succ]) | ((refine wpList_store_is (by rfl) 57 rfl rfl rfl HST.out ?_); simp only [Act.put])))
      refine (find_at HW4.out.at' HOK.out x.b).mono ?_
      rintro e w5 ⟨rfl, b5⟩
      have HW5 : Hid (Wrt w w5 Q n ve ve' D nx) := HW4.out.later b5
      have HL5 : Hid (LAt 57 w5 wr.heap.size (ecells x)) := LAt.later HL4.out b5
      clear b5 HW4 HL4 HLd HAL HST z0
      generalize wr.heap.size = bx at *
      have p5 : w5.cell? ⟨bx, 33, none⟩ = some (.int .u64 x.p) := by rw [LAt.cell HL5.out]; exact ecells_p HXL.out
      have p5d : w5.drew.cell? ⟨bx, 33, none⟩ = some (.int .u64 x.p) := p5
      have q5 := HW5.out.at'.c1
      have q5d : w5.drew.cell? ⟨Q, 1, none⟩ = some ve' := q5
      cases hat : isE D x.b with
      | false =>
        have HN : Hid (drpE D x = D ∧ drpN D x = 0) := drp_no HOK.out.up (fun y h1 => by rw [hat] at h1; cases h1)
        have HTN : Hid (t = drpsN L (l.take (k + 1))) := by show _ = _; rw [HD2.out, HN.out.2]; rfl
        have HWN : Hid (∀ q, Wrt w (w5.drewN q) Q n ve ve' (drps L (l.take (k + 1))) nx) := by
          intro q
          rw [HD1.out, HN.out.1]; exact HW5.out.later (below_drawn q)
        clear hat q5 q5d p5 p5d
        go_wp2_with fail
        go_quiet (fail)
        go_wp2
        go_roundw
        case rel => exact ⟨k + 1, t, ve', by congr 1, rfl, by omega, ht, HTN, HWN.out _⟩
        case measure => simp [intOf]; omega
      | true =>
        obtain ⟨y, hy, hyb⟩ := isE_some hat
        have hpl : ple D x.b < D.length := (List.getElem?_eq_some_iff.1 hy).1
        obtain ⟨p6, c6, rfl, hc6, hg6⟩ := O.own_form HW5.out.at'.row
        obtain ⟨g, rfl⟩ := hg6 (by omega)
        obtain ⟨p7, c7, e7, hE7, -⟩ := HW5.out.at'.ein HOK.out.wf
        cases e7
        have y5 := hE7.cp hy
        rw [Nat.zero_add] at y5
        have y5d : w5.drew.cell? ⟨g, ple D x.b * 34 + 33, none⟩ = some (.int .u64 y.p) := y5
        have j1 : ((ple D x.b : Nat) : Int) < (D.length : Int) := by omega
        have j0 : (0 : Int) ≤ ((ple D x.b : Nat) : Int) := by omega
        by_cases hpp : y.p = x.p
        · have HC : Hid (D.take (ple D x.b) ++ D.drop (ple D x.b + 1) = drpE D x ∧ drpN D x = 1) := drp_at HOK.out.up hat hy hpp
          have hpq : (y.p == x.p) = true := by rw [beq_iff_eq]; exact hpp
          have HTN : Hid (t + 1 = drpsN L (l.take (k + 1))) := by show _ = _; rw [HD2.out, HC.out.2]
          have ht1 : t + 1 ≤ 64 := by have := HTN.out; have := HT64.out; omega
          clear hat hpp hE7 HT64 hy hyb
          generalize ple D x.b = kp at *
          go_wp2_with fail
          go_quiet (fail)
          have HD5 : Hid (Below w5.heap.size w5 (w5.drewN nq)) := below_drawn nq
          have A6 : CAt (w5.drewN nq) Q n (.slice (some ⟨g, 0, none⟩) D.length c6) D nx := HW5.out.at'.later (below_drawn nq)
          have q6 := A6.c1
          have hdel := delete_at A6.row HOK.out.wf rfl hpl (by omega)
          have HDEL : Hid (Calls Tryd.prog 34 #[.slice (some ⟨g, 0, none⟩) D.length c6, .int .i64 (kp : Int), .int .i64 ((kp : Int) + 1)] (w5.drewN nq) fun e w' => e = .returned (.slice (some ⟨g, 0, none⟩) (D.length - 1) c6) ∧ EOwn 57 w' 0 (.slice (some ⟨g, 0, none⟩) (D.length - 1) c6) (D.take kp ++ D.drop (kp + 1)) ∧ Kept (· = g) (w5.drewN nq) w') := hdel
          have HA6 : Hid (CAt (w5.drewN nq) Q n (.slice (some ⟨g, 0, none⟩) D.length c6) D nx) := A6
          clear hdel A6 y5 y5d q5 q5d p5 p5d
          generalize w5.drewN nq = w6 at *
          go_wp2_with fail
          refine HDEL.out.mono ?_
          rintro e w7 ⟨rfl, hO, hK7⟩
          have hK8 : Kept (fun k => (Value.slice (some ⟨g, 0, none⟩) D.length c6).ownBlock = some k) w6 w7 := hK7.wider (fun x _ e => by subst e; rfl)
          have HFIN : Hid (Wrt w (w7.setCell ⟨Q, 1, none⟩ (.slice (some ⟨g, 0, none⟩) (D.length - 1) c6)) Q n ve (.slice (some ⟨g, 0, none⟩) (D.length - 1) c6) (drps L (l.take (k + 1))) nx) := by
            show Wrt _ _ _ _ _ _ _ _
            rw [HD1.out]
            exact HW5.out.trans (Wrt.row HA6.out HD5.out (by rw [← HC.out.1]; exact hO) hK8 (.inl rfl))
          have r1 := (Wrt.cells HA6.out hK8).1
          have r2 := (Wrt.cells HA6.out hK8).2
          clear hO hK7 hK8 HDEL HA6 q6
          go_wp2
          go_roundw
          case rel => exact ⟨k + 1, t + 1, _, by congr 1, by congr 1, by omega, ht1, HTN, HFIN⟩
          case measure => simp [intOf]; omega
        · have HN : Hid (drpE D x = D ∧ drpN D x = 0) := drp_no HOK.out.up (fun z _ h1 => by rw [hy] at h1; cases h1; exact hpp)
          have hpq : (y.p == x.p) = false := by rw [beq_eq_false_iff_ne]; exact hpp
          have HTN : Hid (t = drpsN L (l.take (k + 1))) := by show _ = _; rw [HD2.out, HN.out.2]; rfl
          have HWN : Hid (∀ q, Wrt w (w5.drewN q) Q n ve (.slice (some ⟨g, 0, none⟩) D.length c6) (drps L (l.take (k + 1))) nx) := by
            intro q
            rw [HD1.out, HN.out.1]; exact HW5.out.later (below_drawn q)
          clear hat hpp hE7 HT64 hy hyb
          generalize ple D x.b = kp at *
          go_wp2_with fail
          go_quiet (fail)
          clear y5 y5d q5 q5d p5 p5d
          go_wp2
          go_roundw
          case rel => exact ⟨k + 1, t, _, by congr 1, rfl, by omega, ht, HTN, HWN.out _⟩
          case measure => simp [intOf]; omega
    · have HE : Hid (l.take k = l) := List.take_of_length_le (by rw [HL.out]; omega)
      have HT2 : Hid (t = drpsN L l) := by have := HT.out; rw [HE.out] at this; exact this
      have HW2 : Hid (Wrt w wr Q n ve ve' (drps L l) nx) := by have := HW.out; rw [HE.out] at this; exact this
      clear HT HW HE
      go_wp2
      go_ret
      exact ⟨by rw [← HT2.out]; rfl, ve', HW2.out⟩
set_option maxHeartbeats 2000000 in
set_option maxRecDepth 100000 in
theorem drop_nil {p : Option Addr} {m c : Nat} {l : List En} (w : World) (hM : EIn w p m l) (hm : m ≤ 10000) :
    Calls Tryd.prog 18 #[.pointer none, .slice p m c] w fun e w' => e = .returned (.int .i64 0) ∧ Below w.heap.size w w' := by
  have HM : Hid (EIn w p m l) := hM
  have HL : Hid (l.length = m) := hM.len
  clear hM
  go_enter Tryd.func18, Tryd.ntmps18
  go_wp2_with fail
  go_loopw [12, 5] (fun v v2 W => ∃ (k : Nat), v = .int .i64 (k : Int) ∧ v2 = .int .i64 0 ∧ k ≤ m ∧ Hid (Below w.heap.size w W)) (fun v _ _ => m - (intOf v).toNat)
  case atStart => exact ⟨0, rfl, rfl, by omega, Below.refl _ _⟩
  case round =>
    obtain ⟨k, rfl, rfl, hk, HB⟩ := hrel
    by_cases hlt : k < m
    · obtain ⟨x, hx⟩ : ∃ x, l[k]? = some x := ⟨_, List.getElem?_eq_getElem (by rw [HL.out]; omega)⟩
      obtain ⟨b1, o1, e1, -⟩ := HM.out.cells (by omega)
      have hMr : EIn wr p m l := HM.out.later HB.out
      subst e1
      have hxw : x.Wf := hMr.wf x (List.mem_of_getElem? hx)
      have HLd : Hid ((Instr.loadAt 57 (.pointer (some ⟨b1, o1 + k * 34, none⟩))).run Tryd.prog wr = .ok (.agg (ecells x).toArray) wr) := EIn.load etC hMr hx
      obtain ⟨w3, hw3⟩ : ∃ w3, w3 = wr.alloc (.cells (ecells en0).toArray 57) := ⟨_, rfl⟩
      obtain ⟨w4, hw4⟩ : ∃ w4, w4 = wr.alloc (.cells (ecells x).toArray 57) := ⟨_, rfl⟩
      have HAL : Hid ((Instr.alloc 57 true (.tuple #[])).run Tryd.prog wr = .ok (.pointer (some ⟨wr.heap.size, 0, none⟩)) w3) := by rw [hw3]; exact allocE etC wr
      have HST : Hid ((Instr.storeAt 57 (.pointer (some ⟨wr.heap.size, 0, none⟩)) (.agg (ecells x).toArray)).run Tryd.prog w3 = .ok () w4) := by rw [hw3, hw4]; exact store_newE etC wr x hxw.len
      have b4 : Below wr.heap.size wr w4 := by rw [hw4]; exact below_alloc wr _
      have l4 : LAt 57 w4 wr.heap.size (ecells x) := by rw [hw4]; exact LAt.new _ _ _
      have HB4 : Hid (Below w.heap.size w w4) := below_then HB.out b4
      have z0 : w4.cell? ⟨wr.heap.size, 0, none⟩ = some (.int .i64 x.b) := LAt.cell l4 0
      have i1 : (k : Int) < (m : Int) := by omega
      clear hw3 hw4 b4 l4 hxw hx hMr HB
      go_wp2_with ((with_reducible refine at_ops ?_); (first | ((first | (refine wpList_load_is (by rfl) 57 rfl rfl HLd.out ?_) | (refine wpList_alloc_is (by rfl) 57 rfl HAL.out ?_)); simp only [Act.put, List.setIfInBounds_toArray, List.set_cons_zero, List.set_cons_succ]) | ((refine wpList_store_is (by rfl) 57 rfl rfl rfl HST.out ?_); simp only [Act.put])))
      refine (find_nil x.b w4).mono ?_
      rintro e w5 ⟨rfl, rfl⟩
      clear HLd HAL HST z0
      have HB5 : Hid (∀ q, Below w.heap.size w (w5.drewN q)) := fun q => below_then HB4.out (below_drawn q)
      go_wp2_with fail
      go_quiet (fail)
      go_wp2
      go_roundw
      case rel => exact ⟨k + 1, by congr 1, rfl, by omega, HB5.out _⟩
      case measure => simp [intOf]; omega
    · go_wp2
      go_ret
      exact ⟨rfl, HB.out⟩
end
end Go.Proofs.YthcpnfelnonhnaaDoor
