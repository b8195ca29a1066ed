/-
  Layer 15: settled.
-/
import Derived.Test.YtkgjmejpbklabaaGi
import Derived.Deep.LoopGhost
import Derived.BigRegion
namespace Go.Proofs.Ytkgjmejpbklabaa
open Go.RowKit

open B (IIn I64)

set_option maxHeartbeats 2000000 in
set_option maxRecDepth 100000 in
theorem settled_at {S : Nat → Prop} {w : World} {tp : Option Addr} {tn tc : Nat} {nv : Value} {nx : List (List Nat)} {n : Nat} (hn : nx.length = n) (hz : n ≤ 9000) (hNX : NIn S w nv nx) (hwf : ∀ i v, v ∈ nx.getD i [] → v < n) (hrl : ∀ i, (nx.getD i []).length ≤ 9000) :
    Calls Try.prog 22 #[.agg #[.slice tp tn tc, nv]] w fun e w' => ∃ p c o, e = .returned (.slice p (List.length o) c) ∧ w'.ownsRow w.heap.size 3 1 (.slice p o.length c) o.length (I64 (nz o)) ∧ RowKit.Below w.heap.size w w' ∧ Stl (Ed nx) n o := by
  obtain ⟨g, cg, enx, hrow⟩ := hNX.row
  rw [hn] at enx
  subst enx
  have hmk1 := fun w => make_bools w n (by omega)
  have hmk2 := fun w => make_ints w n (by omega)
  go_enter Try.func22, Try.ntmps22
  go_wp2_with fail
  have HNN : Hid (nx.length = n) := hn
  have HROW : Hid (∀ i, i < n → ∃ p k, ∀ W : World, RowKit.Below w.heap.size w W → W.cell? ⟨g, i, none⟩ = some (.slice p (nx.getD i []).length k) ∧ IIn W p (nx.getD i []).length (nz (nx.getD i []))) := fun i hi => by
    obtain ⟨p, k, h⟩ := hrow i (by omega)
    exact ⟨p, k, fun W hW => h W fun k _ hlt => hW.block k hlt⟩
  have HS0 : Hid (Stg w (((w.alloc (Obj.cells #[.slice tp tn tc, .slice (some ⟨g, 0, none⟩) n cg] 56)).alloc (Obj.cells (Array.replicate n (Value.bool false)) 4)).alloc (Obj.cells (Array.replicate n (Value.int .i64 0)) 3)) n (w.heap.size + 1) (w.heap.size + 1 + 1) (.slice tp tn tc) (.slice (some ⟨g, 0, none⟩) n cg) nils nils [] [] (List.replicate n false) (List.replicate n 0)) := by
    have h1 := GBx.new w (.slice tp tn tc) (.slice (some ⟨g, 0, none⟩) n cg)
    have hs1 : (w.alloc (Obj.cells #[.slice tp tn tc, .slice (some ⟨g, 0, none⟩) n cg] 56)).heap.size = w.heap.size + 1 := by simp
    have h2 := own_all (w.alloc (Obj.cells #[.slice tp tn tc, .slice (some ⟨g, 0, none⟩) n cg] 56)) 4 (List.replicate n (Value.bool false)) n (by simp) (by omega) (base := w.heap.size) (by rw [hs1]; omega)
    rw [hs1] at h2
    have hs2 : ((w.alloc (Obj.cells #[.slice tp tn tc, .slice (some ⟨g, 0, none⟩) n cg] 56)).alloc (Obj.cells (List.replicate n (Value.bool false)).toArray 4)).heap.size = w.heap.size + 1 + 1 := by simp
    have h3 := own_all ((w.alloc (Obj.cells #[.slice tp tn tc, .slice (some ⟨g, 0, none⟩) n cg] 56)).alloc (Obj.cells (List.replicate n (Value.bool false)).toArray 4)) 3 (List.replicate n (Value.int .i64 0)) n (by simp) (by omega) (base := w.heap.size) (by rw [hs2]; omega)
    rw [hs2] at h3
    rw [show Array.replicate n (Value.bool false) = (List.replicate n (Value.bool false)).toArray by simp, show Array.replicate n (Value.int .i64 0) = (List.replicate n (Value.int .i64 0)).toArray by simp]
    exact {
      bel := below_then (below_then (below_alloc w _) (below_alloc _ _)) (below_alloc _ _)
      bx := (h1.later (below_alloc _ _)).later (below_alloc _ _)
      om := by
        have := O.own_later h2 (below_alloc _ (Obj.cells (List.replicate n (Value.int .i64 0)).toArray 3))
        rw [show Bs (List.replicate n false) = List.replicate n (Value.bool false) by simp [Bs]]
        exact this
      og := by rw [← I64_rep]; exact h3
      oo := World.ownsRow_nil _ _ _ _
      ow := World.ownsRow_nil _ _ _ _
      d1 := fun e => by cases e
      d2 := fun e => by cases e
      d3 := fun b hb => by cases hb }
  have HD0 : Hid (Dfs nx [] [] (List.replicate n false) (List.replicate n 0)) := by have := Dfs.start nx; rw [hn] at this; exact this
  clear hn hrow hNX hmk1 hmk2
  generalize ((w.alloc (Obj.cells #[.slice tp tn tc, .slice (some ⟨g, 0, none⟩) n cg] 56)).alloc (Obj.cells (Array.replicate n (Value.bool false)) 4)).alloc (Obj.cells (Array.replicate n (Value.int .i64 0)) 3) = W0 at HS0 ⊢
  generalize hbm : w.heap.size + 1 = bm at HS0 ⊢
  generalize hbg : bm + 1 = bg at HS0 ⊢
  clear hbm hbg
  go_loopw [3, 21] (fun v v2 W => ∃ (p : Option Addr) (c i : Nat) (o : List Nat) (mt : List Bool) (gn : List Nat), v = .slice p o.length c ∧ v2 = .int .i64 (i : Int) ∧ i ≤ n ∧ Hid (Stg w W n bm bg (.slice tp tn tc) (.slice (some ⟨g, 0, none⟩) n cg) (.slice p o.length c) nils o [] mt gn) ∧ Hid (Dfs nx o [] mt gn) ∧ Hid (∀ x, x < i → mt.getD x false = true)) (fun v v2 _ => n - (intV v2).toNat)
  case atStart => exact ⟨none, 0, 0, [], _, _, rfl, rfl, by omega, HS0, HD0, fun x hx => by omega⟩
  case round =>
    obtain ⟨p, c, i, o, mt, gn, rfl, rfl, hi, HS, HD, HM⟩ := hrel
    by_cases hin : i < n
    · have hcm := HS.out.cm hin
      cases hmi : mt.getD i false with
      | true =>
        rw [hmi] at hcm
        have HM2 : Hid (∀ x, x < i + 1 → mt.getD x false = true) := fun x hx => by
          by_cases e : x = i
          · rw [e]; exact hmi
          · exact HM.out x (by omega)
        clear hmi
        go_wp2_with fail
        go_roundw
        case rel => exact ⟨p, c, i + 1, o, mt, gn, rfl, rfl, by omega, HS, HD, HM2⟩
        case measure => simp [intV]; omega
      | false =>
        rw [hmi] at hcm
        have hfm : wr.frozen? ⟨bm, i, none⟩ = false := O.own_free HS.out.om i
        have HS1 : Hid (Stg w ((wr.setCell ⟨bm, i, none⟩ (.bool true)).alloc (Obj.cells #[Value.int .i64 (i : Int)] 3)) n bm bg (.slice tp tn tc) (.slice (some ⟨g, 0, none⟩) n cg) (.slice p o.length c) (.slice (some ⟨wr.heap.size, 0, none⟩) 1 1) o [i] (mt.set i true) gn) := by
          have := (HS.out.setm i).begin i
          rw [show (wr.setCell ⟨bm, i, none⟩ (.bool true)).heap.size = wr.heap.size by simp] at this
          exact this
        have HD1 : Hid (Dfs nx o [i] (mt.set i true) gn) := HD.out.root hmi (by have := HNN.out; omega)
        have HM1 : Hid (∀ x, x < i + 1 → (mt.set i true).getD x false = true) := fun x hx => by
          rw [getD_set]
          by_cases e : i = x ∧ i < mt.length
          · rw [if_pos e]
          · rw [if_neg e]
            have := HS.out.lm
            exact HM.out x (by omega)
        clear hmi
        go_wp2_with fail
        clear hcm hfm
        generalize ((wr.setCell ⟨bm, i, none⟩ (.bool true)).alloc (Obj.cells #[Value.int .i64 (i : Int)] 3)) = W1 at HS1 ⊢
        go_loopg [3, 7] (lft nx o gn) (fun k v v7 W => ∃ (p : Option Addr) (c : Nat) (pw : Option Addr) (cw : Nat) (o wy : List Nat) (mt : List Bool) (gn : List Nat), v = .slice p o.length c ∧ v7 = .slice pw wy.length cw ∧ Hid (k = lft nx o gn) ∧ Hid (Stg w W n bm bg (.slice tp tn tc) (.slice (some ⟨g, 0, none⟩) n cg) (.slice p o.length c) (.slice pw wy.length cw) o wy mt gn) ∧ Hid (Dfs nx o wy mt gn) ∧ Hid (∀ x, x < i + 1 → mt.getD x false = true))
        case atStart => exact ⟨p, c, _, _, o, [i], _, gn, rfl, rfl, rfl, HS1, HD1, HM1⟩
        case round =>
          obtain ⟨p2, c2, pw, cw, o2, wy, mt2, gn2, rfl, rfl, HK, HS2, HD2, HM2⟩ := hrel
          have hro : o2.length + wy.length ≤ n := by have := HD2.out.room; have := HNN.out; omega
          cases wy with
          | nil =>
            have HS3 : Hid (Stg w wr n bm bg (.slice tp tn tc) (.slice (some ⟨g, 0, none⟩) n cg) (.slice p2 o2.length c2) nils o2 [] mt2 gn2) := { HS2.out with
              ow := World.ownsRow_nil _ _ _ _
              d2 := fun e => by cases e
              d3 := fun b _ e => by cases e }
            go_wp2_with fail
            go_roundw
            case rel => exact ⟨p2, c2, i + 1, o2, mt2, gn2, rfl, rfl, by omega, HS3, HD2, HM2⟩
            case measure => simp [intV]; omega
          | cons t wy =>
            have htn : t < n := by have := HD2.out.lt (x := t) (.inr (by simp)); have := HNN.out; omega
            obtain ⟨gw, cw', eq, hcw, hcq, _⟩ := O.own_some HS2.out.ow (by simp)
            simp only [Value.slice.injEq] at eq
            obtain ⟨rfl, _, rfl⟩ := eq
            obtain ⟨m, hm⟩ : ∃ m, m = wy.length := ⟨_, rfl⟩
            have hct : wr.cell? ⟨gw, m, none⟩ = some (.int .i64 (t : Int)) := hcq m _ (by rw [nzI_get (by simp; omega)]; simp [List.getD, hm])
            have hlen : (t :: wy).length = m + 1 := by simp [hm]
            have HLEN : Hid ((t :: wy).length = m + 1 ∧ wy.length = m) := ⟨hlen, hm.symm⟩
            rw [hlen] at hcw
            rw [hlen]
            have hmb : m + 1 ≤ n := by simp at hro; omega
            obtain ⟨pr, kr, hrow⟩ := HROW.out t htn
            have hcr := (hrow wr HS2.out.bel).1
            have hIr := (hrow wr HS2.out.bel).2
            have hcg := HS2.out.cg htn
            have hc1 := HS2.out.bx.c1
            obtain ⟨row, hR⟩ : ∃ row, row = nx.getD t [] := ⟨_, rfl⟩
            obtain ⟨gt, hgt⟩ : ∃ gt, gt = gn2.getD t 0 := ⟨_, rfl⟩
            have HR : Hid (nx.getD t [] = row ∧ gn2.getD t 0 = gt) := ⟨hR.symm, hgt.symm⟩
            have hgl : gt ≤ row.length := by rw [hR, hgt]; exact HD2.out.le t
            have hrl2 : row.length ≤ 9000 := by rw [hR]; exact hrl t
            rw [← hR] at hcr hIr
            rw [← hgt] at hcg
            clear hcq hrow hm hlen hR hgt
            have hFG : wr.frozen? ⟨bg, t, none⟩ = false := O.own_free HS2.out.og t
            by_cases hge : gt = row.length
            · subst hge
              have HPOP : Hid (Dfs nx (o2 ++ [t]) wy mt2 gn2 ∧ lft nx (o2 ++ [t]) gn2 < gk) := ⟨HD2.out.pop (by rw [HR.out.2, HR.out.1]), by rw [HK.out]; exact HD2.out.lft_pop⟩
              go_wp2_with fail
              go_quiet (fail)
              have HS3 : Hid (Stg w (wr.drewN nq) n bm bg (.slice tp tn tc) (.slice (some ⟨g, 0, none⟩) n cg) (.slice p2 o2.length c2) (.slice (some ⟨gw, 0, none⟩) (t :: wy).length cw) o2 (t :: wy) mt2 gn2) := HS2.out.draws nq
              generalize wr.drewN nq = W3 at HS3 ⊢
              clear hct hcr hcg hc1 hIr hFG
              have hsz : w.heap.size ≤ W3.heap.size := HS3.out.bel.size
              go_wp2_with (at_builtin; refine O.wpList_one (w := W3) rfl (.tmp 53) (.tmp 55) O.elI rfl rfl HS3.out.oo _ rfl (by simp) rfl (by omega) hsz ?_; intro p3 c3 w3 ho hk hv; have HS4 := HS3.out.addo ho hk hv; have HS4 : Hid (Stg _ _ _ _ _ _ _ _ _ _ _ _ _) := HS4; clear ho hk hv)
              have HS5 : Hid (Stg w w3 n bm bg (.slice tp tn tc) (.slice (some ⟨g, 0, none⟩) n cg) (.slice p3 (o2 ++ [t]).length c3) (.slice (some ⟨gw, 0, none⟩) wy.length cw) (o2 ++ [t]) wy mt2 gn2) := HS4.out.back
              go_roundg (lft nx (o2 ++ [t]) gn2)
              case measure => exact HPOP.out.2
              case rel =>
                refine ⟨p3, c3, some ⟨gw, 0, none⟩, cw, o2 ++ [t], wy, mt2, gn2, by simp, by rw [HLEN.out.2], rfl, HS5, HPOP.out.1, HM2⟩
            · have hgr : gt < row.length := by omega
              obtain ⟨u, hu⟩ : ∃ u, row[gt]? = some u := ⟨row[gt], by rw [List.getElem?_eq_getElem hgr]⟩
              have hun : u < n := hwf t u (by rw [HR.out.1]; exact List.mem_of_getElem? hu)
              have HU : Hid ((nx.getD t [])[gn2.getD t 0]? = some u) := by show _ = _; rw [HR.out.1, HR.out.2]; exact hu
              obtain ⟨rb, ro, rfl, hcc⟩ := hIr.cells (by omega)
              have hcu : wr.cell? ⟨rb, ro + gt, none⟩ = some (.int .i64 (u : Int)) := by rw [hcc gt hgr, nz_getD]; simp [List.getD, hu]
              have hgI : ¬ (gt : Int) = (row.length : Int) := by omega
              have hgB : ((gt : Int) == (row.length : Int)) = false := by simp; omega
              have HLT : Hid (lft nx o2 (gn2.set t (gt + 1)) < gk) := by
                have := HD2.out.lft_go (by rw [HR.out.1, HR.out.2]; exact hgr)
                rw [HR.out.2, ← HK.out] at this
                exact this
              clear hcc hIr hu
              go_wp2_with fail
              go_quiet (fail)
              go_wp2_with fail
              have HS3 : Hid (Stg w (wr.drewN nq) n bm bg (.slice tp tn tc) (.slice (some ⟨g, 0, none⟩) n cg) (.slice p2 o2.length c2) (.slice (some ⟨gw, 0, none⟩) (t :: wy).length cw) o2 (t :: wy) mt2 gn2) := HS2.out.draws nq
              have hcr3 : (wr.drewN nq).cell? ⟨g, t, none⟩ = some (.slice (some ⟨rb, ro, none⟩) row.length kr) := hcr
              have hcu3 : (wr.drewN nq).cell? ⟨rb, ro + gt, none⟩ = some (.int .i64 (u : Int)) := hcu
              have hcg3 : (wr.drewN nq).cell? ⟨bg, t, none⟩ = some (.int .i64 (gt : Int)) := hcg
              have hc13 : (wr.drewN nq).cell? ⟨w.heap.size, 1, none⟩ = some (.slice (some ⟨g, 0, none⟩) n cg) := hc1
              clear hcr hcu hcg hc1 hct hFG HS2
              generalize wr.drewN nq = W3 at HS3 hcr3 hcu3 hcg3 hc13 ⊢
              clear nq
              go_quiet (fail)
              have HS4 : Hid (Stg w (W3.drewN nq) n bm bg (.slice tp tn tc) (.slice (some ⟨g, 0, none⟩) n cg) (.slice p2 o2.length c2) (.slice (some ⟨gw, 0, none⟩) (t :: wy).length cw) o2 (t :: wy) mt2 gn2) := HS3.out.draws nq
              have hcg4 : (W3.drewN nq).cell? ⟨bg, t, none⟩ = some (.int .i64 (gt : Int)) := hcg3
              clear hcr3 hcu3 hcg3 hc13 HS3
              generalize W3.drewN nq = W4 at HS4 hcg4 ⊢
              have hfg4 : W4.frozen? ⟨bg, t, none⟩ = false := O.own_free HS4.out.og t
              have HS5 : Hid (Stg w (W4.setCell ⟨bg, t, none⟩ (.int .i64 ((gt : Int) + 1))) n bm bg (.slice tp tn tc) (.slice (some ⟨g, 0, none⟩) n cg) (.slice p2 o2.length c2) (.slice (some ⟨gw, 0, none⟩) (t :: wy).length cw) o2 (t :: wy) mt2 (gn2.set t (gt + 1))) := HS4.out.setg t (gt + 1)
              have hcm5 := HS5.out.cm hun
              have hfm5 : W4.frozen? ⟨bm, u, none⟩ = false := O.own_free HS4.out.om u
              cases hmu : mt2.getD u false with
              | true =>
                rw [hmu] at hcm5
                have HD3 : Hid (Dfs nx o2 (t :: wy) mt2 (gn2.set t (gt + 1))) := by
                  have := HD2.out.pass HU.out hmu
                  rw [HR.out.2] at this
                  exact this
                clear hmu
                go_wp2_with fail
                go_roundg (lft nx o2 (gn2.set t (gt + 1)))
                case measure => exact HLT.out
                case rel => exact ⟨p2, c2, some ⟨gw, 0, none⟩, cw, o2, t :: wy, mt2, gn2.set t (gt + 1), rfl, by rw [HLEN.out.1], rfl, HS5, HD3, HM2⟩
              | false =>
                rw [hmu] at hcm5
                have HD3 : Hid (Dfs nx o2 (u :: t :: wy) (mt2.set u true) (gn2.set t (gt + 1))) := by
                  have := HD2.out.push HU.out hmu (by have := HNN.out; omega)
                  rw [HR.out.2] at this
                  exact this
                have HM3 : Hid (∀ x, x < i + 1 → (mt2.set u true).getD x false = true) := fun x hx => by
                  rw [getD_set]
                  by_cases e : u = x ∧ u < mt2.length
                  · rw [if_pos e]
                  · rw [if_neg e]; exact HM2.out x hx
                have HS6 : Hid (Stg w ((W4.setCell ⟨bg, t, none⟩ (.int .i64 ((gt : Int) + 1))).setCell ⟨bm, u, none⟩ (.bool true)) n bm bg (.slice tp tn tc) (.slice (some ⟨g, 0, none⟩) n cg) (.slice p2 o2.length c2) (.slice (some ⟨gw, 0, none⟩) (m + 1) cw) o2 (t :: wy) (mt2.set u true) (gn2.set t (gt + 1))) := by
                  have := HS5.out.setm u
                  rw [HLEN.out.1] at this
                  exact this
                have HOW : Hid (((W4.setCell ⟨bg, t, none⟩ (.int .i64 ((gt : Int) + 1))).setCell ⟨bm, u, none⟩ (.bool true)).ownsRow w.heap.size 3 1 (.slice (some ⟨gw, 0, none⟩) (m + 1) cw) (m + 1) (I64 (nz (t :: wy).reverse))) := by
                  have := HS6.out.ow
                  rw [HLEN.out.1] at this
                  exact this
                have HSZ : Hid (w.heap.size ≤ ((W4.setCell ⟨bg, t, none⟩ (.int .i64 ((gt : Int) + 1))).setCell ⟨bm, u, none⟩ (.bool true)).heap.size) := HS6.out.bel.size
                clear hmu
                go_wp2_with (at_builtin; refine O.wpList_one (w := ((W4.setCell ⟨bg, t, none⟩ (.int .i64 ((gt : Int) + 1))).setCell ⟨bm, u, none⟩ (.bool true))) rfl (.tmp 87) (.tmp 89) O.elI rfl rfl HOW.out _ rfl (by simp) rfl (by omega) HSZ.out ?_; intro p3 c3 w3 ho hk hv; have HS7 := HS6.out.addw (p := p3) (c := c3) (x := u) (W' := w3) (by rw [HLEN.out.1]; exact ho) hk (by rw [HLEN.out.1]; exact hv); have HS7 : Hid (Stg _ _ _ _ _ _ _ _ _ _ _ _ _) := HS7; clear ho hk hv)
                go_roundg (lft nx o2 (gn2.set t (gt + 1)))
                case measure => exact HLT.out
                case rel => exact ⟨p2, c2, p3, c3, o2, u :: t :: wy, mt2.set u true, gn2.set t (gt + 1), rfl, by rw [List.length_cons, HLEN.out.1], rfl, HS7, HD3, HM3⟩
    · go_wp2_with fail
      go_ret
      have hie : i = n := by omega
      refine ⟨p, c, o, rfl, HS.out.oo, HS.out.bel, ?_⟩
      have := HD.out.done fun x hx => HM.out x (by have := HNN.out; omega)
      rw [HNN.out] at this
      exact this
end Go.Proofs.Ytkgjmejpbklabaa
