/-
  Layer 9: All: the sequence that it hands back.
-/
import Derived.Test.YtmcpjokbkkfgfaaGreatDoorT01
import Derived.Test.YtmcpjokbkkfgfaaGreatDoorT14
import Derived.Test.YtmcpjokbkkfgfaaGreatDoorT11
namespace Go.Proofs.YtmcpjokbkkfgfaaGreatDoor
open Go.RowKit Go.Shelf

attribute [local go_sem] Oper.semAt_some


set_option maxRecDepth 100000 in
set_option maxHeartbeats 4000000 in
theorem all1_in (n : Nat) (hn : 3 ≤ n) {w0 w : World} {lp : Option Addr} {t e : Int} {rd : Int → R.Rec × Int} (h : Rdr w0 lp t e rd) (Bl : Nat) (hb : Below w0.heap.size w0 w) (hl : Boxed w Bl 35 (.pointer lp)) :
    SeqIn Fence.wide n Tryz.prog 80 #[.pointer (some ⟨Bl, 0, none⟩)] (fun x : WR => #[.int .u64 x.1.pos, .agg (R.rcells x.1).toArray]) (KP w0.heap.size) (fun xs => recs xs = allR rd t (e - t).toNat) (fun pre => recs pre <+: allR rd t (e - t).toNat) 64 w := by
  intro l J Jx W hW hJ hJx hY h0
  have hmo : Tryz.prog.follows Departure.mixedOrders = true := by kernel_rfl
  have h1n : 1 ≤ n := by omega
  have hsz0 := hb.size
  have hsz1 := hW.size
  have HL : Hid (Rdr w0 lp t e rd) := h
  have HBW : Hid (Below w0.heap.size w0 W) := hb.trans (hW.mono hsz0)
  have HlW : Hid (Boxed W Bl 35 (.pointer lp)) := (hW.block Bl hl.lt).trans hl
  have hBlt := hl.lt
  have hf0 : 0 ≤ t ∧ t ≤ e ∧ e ≤ 4611686018427387904 := ⟨h.t0, h.te, h.eM⟩
  clear h hb hl
  refine callsIn_of_wp_marks Tryz.func80 rfl trivial ?_ rfl
  simp only [Tryz.ntmps80, List.size_toArray, List.length_cons, List.length_nil, Nat.reduceAdd, Nat.reduceSub, Array.replicate_succ, Array.replicate_zero, List.push_toArray, List.append_toArray, List.nil_append, List.cons_append]
  have HlA : Hid (Boxed (W.alloc (.cells #[.func (.yield l) #[] #[]] 155)) Bl 35 (.pointer lp)) := HlW.out.alloc _
  have HyA : Hid (Boxed (W.alloc (.cells #[.func (.yield l) #[] #[]] 155)) W.heap.size 155 (.func (.yield l) #[] #[])) := Boxed.new W 155 _
  have HBA : Hid (Below w0.heap.size w0 (W.alloc (.cells #[.func (.yield l) #[] #[]] 155))) := HBW.out.alloc (by omega) _
  have HJA : Hid (J [] (W.alloc (.cells #[.func (.yield l) #[] #[]] 155))) := own_below hJ h0 (below_alloc W _)
  have hsA : (W.alloc (.cells #[.func (.yield l) #[] #[]] 155)).heap.size = W.heap.size + 1 := by simp
  obtain ⟨WA, hWA⟩ : ∃ x, W.alloc (.cells #[.func (.yield l) #[] #[]] 155) = x := ⟨_, rfl⟩
  rw [hWA] at HlA HyA HBA HJA hsA
  gi_wp2
  clear hWA
  have cl := HlA.out.cell
  refine wpIn_mono (Q := fun e' a' w' => e' = .normal ∧ a' = { tmps := #[.func (.yield l) #[] #[], .pointer (some ⟨Bl, 0, none⟩), .pointer (some ⟨W.heap.size, 0, none⟩), undef, undef, undef, .pointer lp, .int .u64 t, .pointer lp, .int .u64 e, .func (.func 98) #[] #[.pointer (some ⟨W.heap.size + 1, 0, none⟩), .pointer (some ⟨W.heap.size + 1 + 1, 0, none⟩)], undef, undef, undef, undef, undef, undef, undef, undef, undef, undef, undef, undef, undef, undef, undef, undef], defers := [] } ∧ w' = ((WA.drew.alloc (.cells #[.int .u64 t] 24)).alloc (.cells #[.int .u64 e] 24))) ?cut ?rest
  case cut =>
    have HGA : Hid (Below w0.heap.size w0 WA.drew) := HBA.out.drew
    have cl' : WA.drew.cell? ⟨Bl, 0, none⟩ = some (.pointer lp) := cl
    gi_region_with_o (first | (refine ⟨trivial, ?_⟩; gi_at_call 19; refine (callsIn_wide.2 (HL.out.tl _ HGA.out)).mono ?_; rintro e' w' ⟨rfl, rfl⟩) | (refine ⟨trivial, ?_⟩; gi_at_call 20; refine (callsIn_wide.2 (HL.out.en _ HGA.out)).mono ?_; rintro e' w' ⟨rfl, rfl⟩) | (refine ⟨trivial, ?_⟩; gi_at_call 81; refine (callsIn_wide.2 (G.span_any _ _ _)).mono ?_; rintro e' w' ⟨rfl, rfl⟩))
    all_goals exact ⟨rfl, rfl, rfl⟩
  case rest =>
    rintro e' a' w' ⟨rfl, rfl, rfl⟩
    have bT : Hid (Boxed ((WA.drew.alloc (.cells #[.int .u64 t] 24)).alloc (.cells #[.int .u64 e] 24)) (W.heap.size + 1) 24 (.int .u64 t)) := by
      have := (Boxed.new WA.drew 24 (.int .u64 t)).alloc (.cells #[.int .u64 e] 24)
      rwa [show WA.drew.heap.size = W.heap.size + 1 from hsA] at this
    have bE : Hid (Boxed ((WA.drew.alloc (.cells #[.int .u64 t] 24)).alloc (.cells #[.int .u64 e] 24)) (W.heap.size + 1 + 1) 24 (.int .u64 e)) := by
      have := Boxed.new (WA.drew.alloc (.cells #[.int .u64 t] 24)) 24 (.int .u64 e)
      rwa [World.size_alloc, show WA.drew.heap.size = W.heap.size + 1 from hsA] at this
    have hb2 : Below WA.heap.size WA ((WA.drew.alloc (.cells #[.int .u64 t] 24)).alloc (.cells #[.int .u64 e] 24)) := ((Below.refl WA.heap.size WA).drew.alloc (Nat.le_refl _) _).alloc (by simp) _
    have bL : Hid (Boxed ((WA.drew.alloc (.cells #[.int .u64 t] 24)).alloc (.cells #[.int .u64 e] 24)) Bl 35 (.pointer lp)) := (hb2.block Bl HlA.out.lt).trans HlA.out
    have bY : Hid (Boxed ((WA.drew.alloc (.cells #[.int .u64 t] 24)).alloc (.cells #[.int .u64 e] 24)) W.heap.size 155 (.func (.yield l) #[] #[])) := (hb2.block W.heap.size HyA.out.lt).trans HyA.out
    have hJ2 : Hid (J [] ((WA.drew.alloc (.cells #[.int .u64 t] 24)).alloc (.cells #[.int .u64 e] 24))) := own_below hJ HJA.out hb2
    have hB2 : Hid (Below w0.heap.size w0 ((WA.drew.alloc (.cells #[.int .u64 t] 24)).alloc (.cells #[.int .u64 e] 24))) := HBA.out.trans (hb2.mono HBA.out.size)
    have hs2 : ((WA.drew.alloc (.cells #[.int .u64 t] 24)).alloc (.cells #[.int .u64 e] 24)).heap.size = W.heap.size + 3 := by simp; exact hsA
    clear hb2 cl HlA HyA HBA HJA
    obtain ⟨W2, hW2⟩ : ∃ x, ((WA.drew.alloc (.cells #[.int .u64 t] 24)).alloc (.cells #[.int .u64 e] 24)) = x := ⟨_, rfl⟩
    rw [hW2] at bT bE bL bY hJ2 hB2 hs2 ⊢
    clear hW2
    gi_wp2
    refine wpIn_rangeFunc_ownG (F := Fence.wide) (n := n) (P := Tryz.prog) rfl h1n (gf := 98) (lb := #[.pointer (some ⟨W.heap.size + 1, 0, none⟩), .pointer (some ⟨W.heap.size + 1 + 1, 0, none⟩)]) rfl trivial (enters_of Tryz.func98 (by kernel_rfl) rfl)
      (G.span_stops Fence.wide (n - 1) trivial rfl (by omega) (W.heap.size + 1) (W.heap.size + 1 + 1) t e (by omega) (by omega) (by omega) (by omega) W2 bT.out bE.out) G.Kept2.trans (G.Kept2.keeps (by omega) (by omega)) (Below.refl _ _) (fun _ => rfl)
      (fun pre V => (∃ xs : List WR, Rds rd pre xs ∧ J xs V) ∧ (Below w0.heap.size w0 V ∧ (Boxed V Bl 35 (.pointer lp) ∧ (Boxed V W.heap.size 155 (.func (.yield l) #[] #[]) ∧ (Boxed V (W.heap.size + 1) 24 (.int .u64 t) ∧ Boxed V (W.heap.size + 1 + 1) 24 (.int .u64 e))))))
      (fun c pre V => c = .ret ∧ ∃ (xs : List WR) (pre' : List G.U64) (u : G.U64), (pre = pre' ++ [u] ∧ Rds rd pre' xs) ∧ (((rd u.1).2 ≠ 0 ∧ J xs V) ∨ (∃ x : WR, rd u.1 = (x.1, 0) ∧ Jx (xs ++ [x]) V)))
      ?hI ?hIx ⟨⟨[], Rds.nil _, hJ2.out⟩, hB2.out, bL.out, bY.out, bT.out, bE.out⟩
      (fun x => { tmps := #[.func (.yield l) #[] #[], .pointer (some ⟨Bl, 0, none⟩), .pointer (some ⟨W.heap.size, 0, none⟩), .int .u64 x.1, undef, undef, .pointer lp, .int .u64 t, .pointer lp, .int .u64 e, .func (.func 98) #[] #[.pointer (some ⟨W.heap.size + 1, 0, none⟩), .pointer (some ⟨W.heap.size + 1 + 1, 0, none⟩)], .int .u64 x.1, undef, undef, undef, undef, undef, undef, undef, undef, undef, undef, undef, undef, undef, undef, undef], defers := [] }) ?assign ?body ?done ?stop
    case hI =>
      refine OwnFrom.and (fun s V V' row hs hg hr => ?_) (OwnFrom.and (ownFrom_below (Nat.le_refl _) (by omega)) (OwnFrom.and (own_box _ _ _ _) (OwnFrom.and (own_box _ _ _ _) (OwnFrom.and (own_box _ _ _ _) (own_box _ _ _ _)))))
      obtain ⟨xs, h1, h2⟩ := hs
      exact ⟨xs, h1, own_wide hJ (by omega) xs V V' row h2 hg hr⟩
    case hIx =>
      rintro c s V V' row ⟨hc, xs, pre', u, h1, h2⟩ hg hr
      refine ⟨hc, xs, pre', u, h1, ?_⟩
      rcases h2 with ⟨h2, h3⟩ | ⟨x, h2, h3⟩
      · exact .inl ⟨h2, own_wide hJ (by omega) xs V V' row h3 hg hr⟩
      · exact .inr ⟨x, h2, own_wide hJx (by omega) _ V V' row h3 hg hr⟩
    case assign =>
      intro l1 x V K hK
      gi_wp2
      exact hK
    case body =>
      rintro l1 pre u V ⟨⟨xs, hrd, hJs⟩, hBV, cL, cY, cT, cE⟩ hlt
      have hlen := hrd.len
      have hN : G.spanN t e ≤ 64 := G.spanN_le _ _
      have HRD : Hid (Rds rd pre xs) := hrd
      have HJs : Hid (J xs V) := hJs
      have HBV : Hid (Below w0.heap.size w0 V) := hBV
      have HcL : Hid (Boxed V Bl 35 (.pointer lp)) := cL
      have HcY : Hid (Boxed V W.heap.size 155 (.func (.yield l) #[] #[])) := cY
      have HcT : Hid (Boxed V (W.heap.size + 1) 24 (.int .u64 t)) := cT
      have HcE : Hid (Boxed V (W.heap.size + 1 + 1) 24 (.int .u64 e)) := cE
      have kl := cL.cell
      have hu0 := u.2.1
      clear hrd hJs hBV cL cY cT cE hN
      gi_wp2_with fail
      refine ⟨trivial, fun _ => by omega, ?_⟩
      refine (CallsIn.inRound l1 (callsIn_wide.2 (HL.out.rdc V HBV.out u.1 hu0))).mono ?_
      rintro e' V1 ⟨rfl, b1⟩
      have hw : (rd u.1).1.Wf := HL.out.wf _
      have hpos := HL.out.pos u.1
      obtain ⟨⟨r, k⟩, hz⟩ : ∃ z, rd u.1 = z := ⟨_, rfl⟩
      have HZ : Hid (rd u.1 = (r, k)) := hz
      rw [hz] at hw hpos ⊢
      clear hz
      obtain ⟨V2, hV2⟩ : ∃ y, y = V1.alloc (.cells (R.rcells r).toArray 62) := ⟨_, rfl⟩
      have A4 : Hid (_) := R.alloc31 V1
      have T4 : Hid (_) := R.store_new R.size31 V1 r hw.len
      rw [← hV2] at T4
      have B12 : Hid (Below V1.heap.size V1 V2) := by rw [hV2]; exact below_alloc V1 _
      have B2 : Hid (Below V.heap.size V V2) := below_then b1 B12.out
      have R4 : Hid (R.RAt 62 V2 V1.heap.size r) := by rw [hV2]; exact R.RAt.new 62 V1 r
      have HK2 : Hid (KeepsFrom W2.heap.size V V2) := keeps_of_below B2.out _
      have hBV2 : Hid (Below w0.heap.size w0 V2) := HBV.out.trans (B2.out.mono HBV.out.size)
      have HJ2 : Hid (J xs V2) := own_below hJ HJs.out B2.out
      have bL2 : Hid (Boxed V2 Bl 35 (.pointer lp)) := (B2.out.block _ HcL.out.lt).trans HcL.out
      have bY2 : Hid (Boxed V2 W.heap.size 155 (.func (.yield l) #[] #[])) := (B2.out.block _ HcY.out.lt).trans HcY.out
      have bT2 : Hid (Boxed V2 (W.heap.size + 1) 24 (.int .u64 t)) := (B2.out.block _ HcT.out.lt).trans HcT.out
      have bE2 : Hid (Boxed V2 (W.heap.size + 1 + 1) 24 (.int .u64 e)) := (B2.out.block _ HcE.out.lt).trans HcE.out
      have cy := bY2.out.cell
      have HQ : Hid (G.Kept2 (W.heap.size + 1) (W.heap.size + 1 + 1) V V2) := ⟨B2.out.block _ HcT.out.lt, B2.out.block _ HcE.out.lt⟩
      have hlw : r.val.length = 32 := hw.len
      have HW : Hid r.Wf := hw
      clear hV2 b1 B12 HcL HcY HcT HcE kl hw HJs HBV
      by_cases hk : k = 0
      · subst hk
        have hpu : r.pos = u.1 := hpos rfl
        clear hpos
        have L4 : Hid (_) := R.RAt.load31 R4.out hlw
        obtain ⟨fn, tmps, assign, body, hy, hR⟩ := yield_deep (F := Fence.wide) rfl (n - 1 - 1 - 1) l1 (hY xs ⟨r, HW.out⟩ V2 HJ2.out (by have := G.spanN_le t e; omega))
        dsimp only at hy
        rw [hpu] at hy
        clear hY
        gi_wp2_with ((with_reducible refine in_ops ?_); (first | (refine in_alloc (by rfl) 62 rfl A4.out ?_) | (refine in_store (by rfl) 62 rfl rfl rfl T4.out ?_) | (refine in_load (by rfl) 62 rfl rfl L4.out ?_)); simp only [Act.put, List.setIfInBounds_toArray, List.set_cons_zero, List.set_cons_succ])
        refine ⟨fun _ => by omega, hR.mono ?_⟩
        rintro e' V3 ⟨hk3, (⟨rfl, hJ3, hkp3⟩ | ⟨rfl, hJx3⟩)⟩
        · have HF : Hid (KeepsFrom W2.heap.size V V3) := HK2.out.trans (keeps_more hk3 (by omega))
          have HG : Hid (G.Kept2 (W.heap.size + 1) (W.heap.size + 1 + 1) V V3) := HQ.out.trans ⟨(hkp3.typ _ _ _ (.inl rfl) bT2.out).trans bT2.out.symm, (hkp3.typ _ _ _ (.inl rfl) bE2.out).trans bE2.out.symm⟩
          have HI : Hid ((∃ xs : List WR, Rds rd (pre ++ [u]) xs ∧ J xs V3) ∧ (Below w0.heap.size w0 V3 ∧ (Boxed V3 Bl 35 (.pointer lp) ∧ (Boxed V3 W.heap.size 155 (.func (.yield l) #[] #[]) ∧ (Boxed V3 (W.heap.size + 1) 24 (.int .u64 t) ∧ Boxed V3 (W.heap.size + 1 + 1) 24 (.int .u64 e)))))) :=
            ⟨⟨xs ++ [⟨r, HW.out⟩], HRD.out.snoc HZ.out, hJ3⟩, hBV2.out.trans hkp3.low, hkp3.typ _ _ _ (.inr (.inl rfl)) bL2.out, hkp3.typ _ _ _ (.inr (.inr rfl)) bY2.out, hkp3.typ _ _ _ (.inl rfl) bT2.out, hkp3.typ _ _ _ (.inl rfl) bE2.out⟩
          clear hk3 hJ3 hkp3 hR hy
          gi_wp2
          exact ⟨HF.out, HG.out, HI.out⟩
        · have HF : Hid (KeepsFrom W2.heap.size V V3) := HK2.out.trans (keeps_more hk3 (by omega))
          have HX : Hid (Jx (xs ++ [⟨r, HW.out⟩]) V3) := hJx3
          clear hk3 hJx3 hR hy
          gi_wp2
          exact ⟨HF.out, rfl, xs, pre, u, ⟨rfl, HRD.out⟩, .inr ⟨⟨r, HW.out⟩, HZ.out, HX.out⟩⟩
      · have hq : (k != 0) = true := by simp [hk]
        clear hY hpos
        gi_wp2_with ((with_reducible refine in_ops ?_); (first | (refine in_alloc (by rfl) 62 rfl A4.out ?_) | (refine in_store (by rfl) 62 rfl rfl rfl T4.out ?_)); simp only [Act.put, List.setIfInBounds_toArray, List.set_cons_zero, List.set_cons_succ])
        refine ⟨fun _ h => (by cases h), ?_⟩
        gi_wp2
        exact ⟨HK2.out, rfl, xs, pre, u, ⟨rfl, HRD.out⟩, .inl ⟨by rw [HZ.out]; exact hk, HJ2.out⟩⟩
    case done =>
      rintro D ys V hD hS ⟨⟨xs, hrd, hJs⟩, hBV, cL, cY, cT, cE⟩ hK
      have HA : Hid (recs xs = allR rd t (e - t).toNat) := by
        have ee := hrd.all HL.out.us (by rw [hS]; exact List.prefix_refl _)
        have hl : ys.length = (e - t).toNat := by
          have := congrArg List.length hS
          rw [G.spanI_length] at this
          have hu := HL.out.us
          simp only [G.nums, List.length_map] at this
          rw [this]; unfold G.spanN; omega
        rw [hl, Nat.sub_self] at ee
        rw [ee]
        show _ = recs xs ++ []
        rw [List.append_nil]
      have HJV : Hid (J xs (V.putObj D (.deferred none))) := (own_wide hJ (show W.heap.size ≤ W2.heap.size by omega)).putObj _ hJs hD hK rfl
      clear hrd hJs hBV cL cY cT cE
      gi_wp2
      refine ⟨by simp, .inl ⟨_, _, rfl, run_takeDeferred hK, ?_⟩⟩
      exact ⟨_, results_none rfl _ _ _, ⟨_, rfl⟩, .inl ⟨xs, HA.out, HJV.out⟩⟩
    case stop =>
      rintro D c pre V hD hpre ⟨rfl, xs, pre', u, ⟨rfl, hrd⟩, hor⟩ hK
      have hp' : G.nums pre' <+: G.spanI t e := List.IsPrefix.trans ⟨[u.1], by simp [G.nums]⟩ hpre
      have hu := HL.out.us
      have hkk : G.spanN t e = (e - t).toNat := by unfold G.spanN; omega
      have hlt : pre'.length < (e - t).toNat := by
        have := hpre.length_le
        rw [G.spanI_length, hkk] at this
        simp [G.nums] at this
        omega
      have hux : u.1 = t + pre'.length := by
        have h1 : (G.nums (pre' ++ [u]))[pre'.length]? = some u.1 := by simp [G.nums]
        obtain ⟨tt, ht⟩ := hpre
        have h2 := G.spanI_get t e pre'.length (by omega)
        rw [← ht, List.getElem?_append_left (by simp), h1] at h2
        exact (Option.some.inj h2)
      have ee := hrd.all HL.out.us hp'
      obtain ⟨m, hm⟩ : ∃ m, (e - t).toNat - pre'.length = m + 1 := ⟨(e - t).toNat - pre'.length - 1, by omega⟩
      rw [hm, ← hux] at ee
      have HR : Hid ((∃ ys, recs ys = allR rd t (e - t).toNat ∧ J ys (V.putObj D (.deferred none))) ∨ (∃ ys, recs ys <+: allR rd t (e - t).toNat ∧ Jx ys (V.putObj D (.deferred none)))) := by
        rcases hor with ⟨h1, h2⟩ | ⟨x, h1, h2⟩
        · refine .inl ⟨xs, ?_, (own_wide hJ (show W.heap.size ≤ W2.heap.size by omega)).putObj _ h2 hD hK rfl⟩
          rw [ee]
          show _ = recs xs ++ (if (rd u.1).2 = 0 then _ else [])
          rw [if_neg h1, List.append_nil]
        · refine .inr ⟨xs ++ [x], ?_, (own_wide hJx (show W.heap.size ≤ W2.heap.size by omega)).putObj _ h2 hD hK rfl⟩
          rw [ee]
          show _ <+: recs xs ++ (if (rd u.1).2 = 0 then (rd u.1).1 :: allR rd (u.1 + 1) m else [])
          rw [h1, if_pos rfl]
          exact ⟨allR rd (u.1 + 1) m, by simp [recs]⟩
      clear hrd hor ee hux hp' hpre
      gi_wp2
      refine ⟨by simp, .inl ⟨_, _, rfl, run_takeDeferred hK, ?_⟩⟩
      exact ⟨_, results_none rfl _ _ _, ⟨_, rfl⟩, HR.out⟩
end Go.Proofs.YtmcpjokbkkfgfaaGreatDoor

/-
  The laws' own Plain.
-/
namespace Go.Proofs.YtmcpjokbkkfgfaaGreatDoor.R
open Go.RowKit

theorem build_all37 (w : World) (r : Rec) (hv : r.val.length = 32) : (Instr.build 87 #[(0, .int .i64 r.kind), (1, .int .u64 r.pos), (2, .int .i64 r.block), (3, .agg (U8 r.val).toArray), (4, .int .i64 r.images)]).run Tryz.prog w = .ok (.agg (rcells r).toArray) w :=
  build37 w _ r ((fill_k rec0 rec0_len r.kind _).trans ((fill_p ⟨r.kind, 0, 0, zs 32, 0⟩ (zs_len 32) r.pos _).trans ((fill_b ⟨r.kind, r.pos, 0, zs 32, 0⟩ (zs_len 32) r.block _).trans ((fill_v ⟨r.kind, r.pos, r.block, zs 32, 0⟩ (zs_len 32) r.val hv _).trans (fill_i ⟨r.kind, r.pos, r.block, r.val, 0⟩ hv r.images [])))))
set_option maxHeartbeats 1000000 in
set_option maxRecDepth 100000 in
theorem plain_any (r : Rec) (hv : r.val.length = 32) (w : World) :
    Calls Tryz.prog 28 #[.agg (rcells r).toArray] w fun e w' => e = .returned (.agg (rcells r).toArray) ∧ Below w.heap.size w w' := by
  obtain ⟨w1, hw1⟩ : ∃ w1, w1 = w.alloc (.cells (rcells r).toArray 62) := ⟨_, rfl⟩
  have hs1 : w1.heap.size = w.heap.size + 1 := by rw [hw1]; simp
  have R1 : RAt 62 w1 w.heap.size r := by rw [hw1]; exact RAt.new 62 w r
  have B1 : Below w.heap.size w w1 := by rw [hw1]; exact below_alloc w _
  have A1 : Hid (_) := alloc37 w1
  obtain ⟨w2, hw2⟩ : ∃ w2, w2 = w1.alloc (.cells (rcells rec0).toArray 87) := ⟨_, rfl⟩
  have R2 : RAt 62 w2 w.heap.size r := by rw [hw2]; exact R1.later (below_alloc w1 _)
  have Z2 : Hid (RAt 87 w2 (w.heap.size + 1) rec0) := by rw [hw2, ← hs1]; exact RAt.new 87 w1 rec0
  have B2 : Hid (Below w.heap.size w w2) := by rw [hw2]; exact below_then B1 (below_alloc w1 _)
  rw [hs1, ← hw2] at A1
  have c0 := R2.c0
  have c1 := R2.c1
  have c2 := R2.c2
  have c4 := R2.c35 hv
  have L3 : Hid (_) := R2.load24 hv
  have BB : Hid (_) := build_all37 w2 r hv
  have ST : Hid (_) := Z2.out.store (s := r) size37 rec0_len hv
  have HF : Hid (RAt 87 (w2.setRow (w.heap.size + 1) (rcells r).toArray) (w.heap.size + 1) r ∧ Below w.heap.size w (w2.setRow (w.heap.size + 1) (rcells r).toArray)) := ⟨Z2.out.stored _, below_setRow B2.out (by omega) _⟩
  have HV : Hid (r.val.length = 32) := hv
  have e1 := hw1.symm
  clear hv hw1 hw2 R1 R2 B1 B2 hs1
  go_enter Tryz.func28, Tryz.ntmps28
  go_wp2_with ((with_reducible refine at_ops ?_); (first | (refine wpList_alloc_is (by rfl) 87 rfl A1.out ?_) | (refine wpList_load_is (by rfl) 49 rfl rfl L3.out ?_) | (refine wpList_build_is (vs := [(0, .int .i64 r.kind), (1, .int .u64 r.pos), (2, .int .i64 r.block), (3, .agg (U8 r.val).toArray), (4, .int .i64 r.images)]) (by rfl) 87 rfl (by rfl) BB.out ?_) | (refine wpList_store_is (by rfl) 87 rfl rfl rfl ST.out ?_)); simp only [Act.put, List.setIfInBounds_toArray, List.set_cons_zero, List.set_cons_succ])
  exact bodyPost_ret (results_cell1 Tryz.results28 _ _ (w.heap.size + 1) 87 _ _ (by rfl) HF.out.1 HV.out Tryz.underlying87 rfl size37) rfl ⟨rfl, HF.out.2⟩
end Go.Proofs.YtmcpjokbkkfgfaaGreatDoor.R
