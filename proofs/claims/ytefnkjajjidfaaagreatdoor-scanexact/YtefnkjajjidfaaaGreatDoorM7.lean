/-
  Layer 10: apart, walked.
-/
import Derived.Test.YtefnkjajjidfaaaGreatDoorM4
import Derived.Test.YtefnkjajjidfaaaGreatDoorM3
import Derived.Deep.RegionHeld3
import Derived.BigQuiet
namespace Go.Proofs.YtefnkjajjidfaaaGreatDoor
open Go.RowKit


theorem wrap1000 {k : Nat} (h : k ≤ 1000000) : IntKind.i64.wrap (1000 + (k : Int)) = 1000 + (k : Int) := by rw [IntKind.wrap_i64]; omega
set_option maxRecDepth 100000 in
theorem build_tx0 (w : World) (p : Int) : (Instr.build 59 #[(0, .int .u64 p)]).run Tryz.prog w = .ok (.agg #[.int .u64 p, .slice none 0 0]) w := run_build w 59 _ _ (by rfl)
set_option maxHeartbeats 8000000 in
set_option maxRecDepth 100000 in
theorem apart_any (ta la fa tb lb fb : Int) (pa pb : Option Addr) (n ca cb : Nat) (txs : List TX) (vsa vsb : List Value) (w : World) (B0 C : Nat) (ha : XOwn 59 w B0 (.slice pa n ca) txs vsa) (hb : XOwn 59 w C (.slice pb n cb) txs vsb) (hra : Rise vsa C) (hrb : Rise vsb w.heap.size) (hpa : ∀ g, pa = some ⟨g, 0, none⟩ → g < C) (hn : n ≤ 100) (hm : ∀ x ∈ txs, x.ims.length ≤ 100) (hBC : B0 ≤ C) (hCw : C ≤ w.heap.size) :
    Calls Tryz.prog 12 #[.agg (gcells ta la fa (.slice pa n ca)).toArray, .agg (gcells tb lb fb (.slice pb n cb)).toArray] w fun e w' => e = .returned (.bool true) ∧ Below B0 w w' := by
  have hlen : txs.length = n := (vlen_own ha.row).symm
  have hla : vsa.length = n := by rw [ha.len, hlen]
  have hlb : vsb.length = n := by rw [hb.len, hlen]
  obtain ⟨wa, hwa⟩ : ∃ y, y = w.alloc (.cells (gcells ta la fa (.slice pa n ca)).toArray 39) := ⟨_, rfl⟩
  obtain ⟨wb, hwb⟩ : ∃ y, y = wa.alloc (.cells (gcells tb lb fb (.slice pb n cb)).toArray 39) := ⟨_, rfl⟩
  have ewa := hwa.symm
  have ewb := hwb.symm
  have sa : wa.heap.size = w.heap.size + 1 := by rw [hwa]; simp
  have bwa : Below w.heap.size w wa := by rw [hwa]; exact below_alloc w _
  have bab : Below wa.heap.size wa wb := by rw [hwb]; exact below_alloc wa _
  have la0 : LAt 39 wb w.heap.size (gcells ta la fa (.slice pa n ca)) := by
    refine LAt.later ?_ bab
    rw [hwa]; exact LAt.new 39 w _
  have lb0 : LAt 39 wb (w.heap.size + 1) (gcells tb lb fb (.slice pb n cb)) := by rw [hwb, ← sa]; exact LAt.new 39 wa _
  have LA : Hid (LAt 39 wb w.heap.size (gcells ta la fa (.slice pa n ca)) ∧ LAt 39 wb (w.heap.size + 1) (gcells tb lb fb (.slice pb n cb)) ∧ Below w.heap.size w wb) := ⟨la0, lb0, below_then bwa bab⟩
  have XA : Hid (XOwn 59 wb B0 (.slice pa n ca) txs vsa ∧ XOwn 59 wb C (.slice pb n cb) txs vsb) := ⟨ha.later LA.out.2.2, hb.later LA.out.2.2⟩
  have RS : Hid (Rise vsa C ∧ Rise vsb w.heap.size ∧ (∀ g, pa = some ⟨g, 0, none⟩ → g < C) ∧ (∀ x ∈ txs, x.ims.length ≤ 100) ∧ B0 ≤ C ∧ C ≤ w.heap.size) := ⟨hra, hrb, hpa, hm, hBC, hCw⟩
  have a3 : wb.cell? ⟨w.heap.size, 3, none⟩ = some (.slice pa n ca) := LAt.cell la0 3
  clear hwa hwb bwa bab la0 lb0 ha hb hra hrb hpa hm hBC hCw
  go_enter Tryz.func12, Tryz.ntmps12
  go_wp2_with fail
  clear a3 ewa ewb
  go_loopw [5, 27] (fun v i wr => ∃ k : Nat, k ≤ n ∧ i = .int .i64 k ∧ ∃ qv cv, v = .slice qv k cv ∧ Hid (wr.ownsRow wb.heap.size 52 1 (.slice qv k cv) (vsa.take k).length (vsa.take k) ∧ Below wb.heap.size wb wr)) (fun _ i _ => n - (intOf i).toNat)
  case atStart => exact ⟨0, Nat.zero_le _, rfl, none, 0, rfl, World.ownsRow_nil _ _ _ _, Below.refl _ _⟩
  case round =>
    obtain ⟨k, hk, rfl, qv, cv, rfl, HI⟩ := hrel
    by_cases hlt : k < n
    · obtain ⟨g, rfl, q, m, c2, hv, hc, hgl⟩ := XOwn.sl (XA.out.1.later HI.out.2) (k := k) (by omega)
      have z1 : wr.cell? ⟨w.heap.size, 3, none⟩ = some (.slice (some ⟨g, 0, none⟩) n ca) := LAt.cell (LAt.later LA.out.1 HI.out.2) 3
      have z2 : wr.cell? ⟨g, k * 2 + 1, none⟩ = some (.slice q m c2) := hc
      have hlk : (vsa.take k).length = k := by rw [List.length_take]; omega
      obtain ⟨q', c', W', hr, ho, hgr⟩ := app_list HI.out.1 (by omega) HI.out.2.size q m c2
      rw [hlk] at hr ho
      have V5 : Hid (_) := build_list wr q m c2
      have A5 : Hid (_) := hr
      have HN : Hid (W'.ownsRow wb.heap.size 52 1 (.slice q' (k + 1) c') (vsa.take (k + 1)).length (vsa.take (k + 1)) ∧ Below wb.heap.size wb W') := by
        have e : vsa.take (k + 1) = vsa.take k ++ [.slice q m c2] := by rw [List.take_add_one, hv]; rfl
        rw [e]
        exact ⟨ho, (below_then HI.out.2 (below_alloc wr _)).grown hgr (below_then HI.out.2 (below_alloc wr _)).size fun j ej => (HI.out.1.lt j ej).1⟩
      have i1 : (k : Int) < (n : Int) := by omega
      have i0 : (0 : Int) ≤ (k : Int) := by omega
      clear hr ho hgr hv hc HI hlk
      go_wp2_with ((with_reducible refine at_ops ?_); (first | (refine wpList_slice_is (u := .slice q m c2) (by rfl) 100 rfl rfl V5.out ?_) | (refine wpList_append_is (u1 := .slice qv k cv) (u2 := .slice (some ⟨wr.heap.size, 0, none⟩) 1 1) (by rfl) rfl rfl rfl rfl A5.out ?_)); simp only [Act.put, List.setIfInBounds_toArray, List.set_cons_zero, List.set_cons_succ])
      clear V5 A5 z1 z2
      go_wp2_with fail
      go_roundw
      case rel => exact ⟨k + 1, by omega, by go_num, q', c', rfl, HN.out⟩
      case measure => simp [intOf]; omega
    · obtain rfl : n = k := by omega
      have hnl : ¬ (n : Int) < (n : Int) := by omega
      have HA2 : Hid (wr.ownsRow wb.heap.size 52 1 (.slice qv n cv) vsa.length vsa ∧ Below wb.heap.size wb wr) := by
        have := HI.out
        rw [← hla, List.take_length] at this
        rw [← hla]
        exact this
      have a4 : wr.cell? ⟨w.heap.size + 1, 3, none⟩ = some (.slice pb n cb) := LAt.cell (LAt.later LA.out.2.1 HI.out.2) 3
      clear HI
      go_wp2_with fail
      clear a4
      go_loopw [5, 43] (fun v i wr => ∃ k : Nat, k ≤ n ∧ i = .int .i64 k ∧ ∃ qv mv cv, v = .slice qv mv cv ∧ Hid (mv = n + k ∧ wr.ownsRow wb.heap.size 52 1 (.slice qv mv cv) (vsa ++ vsb.take k).length (vsa ++ vsb.take k) ∧ Below wb.heap.size wb wr)) (fun _ i _ => n - (intOf i).toNat)
      case atStart => exact ⟨0, Nat.zero_le _, rfl, qv, n, cv, rfl, rfl, by rw [List.take_zero, List.append_nil]; exact HA2.out.1, HA2.out.2⟩
      case round =>
        clear HA2
        obtain ⟨k, hk, rfl, qv, mv, cv, rfl, HI⟩ := hrel
        by_cases hlt : k < n
        · obtain ⟨g, rfl, q, m, c2, hv, hc, hgl⟩ := XOwn.sl (XA.out.2.later HI.out.2.2) (k := k) (by omega)
          have z1 : wr.cell? ⟨w.heap.size + 1, 3, none⟩ = some (.slice (some ⟨g, 0, none⟩) n cb) := LAt.cell (LAt.later LA.out.2.1 HI.out.2.2) 3
          have z2 : wr.cell? ⟨g, k * 2 + 1, none⟩ = some (.slice q m c2) := hc
          have hlk : (vsa ++ vsb.take k).length = mv := by rw [HI.out.1, List.length_append, List.length_take]; omega
          have hmv : mv ≤ 200 := by have := HI.out.1; omega
          obtain ⟨q', c', W', hr, ho, hgr⟩ := app_list HI.out.2.1 (by omega) HI.out.2.2.size q m c2
          rw [hlk] at hr ho
          have V5 : Hid (_) := build_list wr q m c2
          have A5 : Hid (_) := hr
          have HN : Hid (mv + 1 = n + (k + 1) ∧ W'.ownsRow wb.heap.size 52 1 (.slice q' (mv + 1) c') (vsa ++ vsb.take (k + 1)).length (vsa ++ vsb.take (k + 1)) ∧ Below wb.heap.size wb W') := by
            have e : vsa ++ vsb.take (k + 1) = vsa ++ vsb.take k ++ [.slice q m c2] := by rw [List.take_add_one, hv, List.append_assoc]; rfl
            rw [e]
            exact ⟨by have := HI.out.1; omega, ho, (below_then HI.out.2.2 (below_alloc wr _)).grown hgr (below_then HI.out.2.2 (below_alloc wr _)).size fun j ej => (HI.out.2.1.lt j ej).1⟩
          have i1 : (k : Int) < (n : Int) := by omega
          have i0 : (0 : Int) ≤ (k : Int) := by omega
          clear hr ho hgr hv hc HI hlk
          go_wp2_with ((with_reducible refine at_ops ?_); (first | (refine wpList_slice_is (u := .slice q m c2) (by rfl) 100 rfl rfl V5.out ?_) | (refine wpList_append_is (u1 := .slice qv mv cv) (u2 := .slice (some ⟨wr.heap.size, 0, none⟩) 1 1) (by rfl) rfl rfl rfl rfl A5.out ?_)); simp only [Act.put, List.setIfInBounds_toArray, List.set_cons_zero, List.set_cons_succ])
          clear V5 A5 z1 z2
          go_wp2_with fail
          go_roundw
          case rel => exact ⟨k + 1, by omega, by go_num, q', mv + 1, c', rfl, HN.out⟩
          case measure => simp [intOf]; omega
        · have hnl : ¬ (k : Int) < (n : Int) := by omega
          obtain ⟨vs, hvs⟩ : ∃ vs, vs = vsa ++ vsb := ⟨_, rfl⟩
          obtain ⟨ql, hql⟩ : ∃ ql, ql = qv := ⟨_, rfl⟩
          obtain ⟨L, hL⟩ : ∃ L, L = mv := ⟨_, rfl⟩
          obtain ⟨cl, hcl⟩ : ∃ cl, cl = cv := ⟨_, rfl⟩
          obtain ⟨GA, hGA⟩ : ∃ GA, GA = gcells ta la fa (.slice pa n ca) := ⟨_, rfl⟩
          obtain ⟨GB, hGB⟩ : ∃ GB, GB = gcells tb lb fb (.slice pb n cb) := ⟨_, rfl⟩
          have hkn : k = n := by omega
          have hL2 : L = n + n := by rw [hL, HI.out.1, hkn]
          have hLl : L ≤ 200 := by omega
          have hvl : vs.length = L := by rw [hvs, List.length_append]; omega
          have ho3 := HI.out.2.1
          rw [hkn, ← hlb, List.take_length, ← hvs, ← hql, ← hL, ← hcl] at ho3
          have hb3 := HI.out.2.2
          have hbw : Below w.heap.size w wr := below_then LA.out.2.2 hb3
          -- each list
          have hea : ∀ (c : Nat) (v : Value), vs[c]? = some v → ∃ l : List Im, IOwn wr B0 v l ∧ l.length ≤ 100 := by
            intro c v hv
            rw [hvs] at hv
            have xa := XA.out.1.later hb3
            have xb := XA.out.2.later hb3
            rcases Nat.lt_or_ge c vsa.length with a | a
            · rw [List.getElem?_append_left a] at hv
              obtain ⟨t, ht⟩ : ∃ t, txs[c]? = some t := ⟨_, List.getElem?_eq_getElem (by omega)⟩
              exact ⟨t.ims, xa.each c t v ht hv, RS.out.2.2.2.1 t (List.mem_of_getElem? ht)⟩
            · rw [List.getElem?_append_right a] at hv
              have hcl2 := (List.getElem?_eq_some_iff.1 hv).1
              obtain ⟨t, ht⟩ : ∃ t, txs[c - vsa.length]? = some t := ⟨_, List.getElem?_eq_getElem (by omega)⟩
              have o := xb.each _ t v ht hv
              exact ⟨t.ims, own_at o (fun g hg => Nat.le_trans RS.out.2.2.2.2.1 (o.lt g hg).1) rfl, RS.out.2.2.2.1 t (List.mem_of_getElem? ht)⟩
          have hsep : ∀ (c : Nat) (v : Value), vs[c]? = some v → ∀ (c' : Nat) (v' : Value), vs[c']? = some v' → c < c' → ∀ g h, v.ownBlock = some g → v'.ownBlock = some h → g < h := by
            have hp : vs.Pairwise (fun u v => ∀ g h, u.ownBlock = some g → v.ownBlock = some h → g < h) := by
              rw [hvs]
              refine List.pairwise_append.2 ⟨RS.out.1.1, RS.out.2.1.1, fun u hu v hv g h hg hh => ?_⟩
              have h1 := RS.out.1.2 u hu g hg
              obtain ⟨j, hj⟩ := List.getElem?_of_mem hv
              have hjl := (List.getElem?_eq_some_iff.1 hj).1
              obtain ⟨t, ht⟩ : ∃ t, txs[j]? = some t := ⟨_, List.getElem?_eq_getElem (by omega)⟩
              have h2 := ((XA.out.2.each j t v ht hj).lt h hh).1
              omega
            intro c v hv c' v' hv' hcc
            obtain ⟨h1, e1⟩ := List.getElem?_eq_some_iff.1 hv
            obtain ⟨h2, e2⟩ := List.getElem?_eq_some_iff.1 hv'
            have := List.pairwise_iff_getElem.1 hp c c' h1 h2 hcc
            rw [e1, e2] at this
            exact this
          have HV : Hid (∀ (c : Nat) (v : Value), vs[c]? = some v → ∃ q m cc, v = .slice q m cc ∧ m ≤ 100 ∧ (0 < m → ∃ g, q = some ⟨g, 0, none⟩)) := by
            intro c v hv
            obtain ⟨l, o, hl⟩ := hea c v hv
            rcases o.2 with ⟨e1, e2⟩ | ⟨g, cap, cur, e1, _⟩
            · exact ⟨none, 0, 0, e1, by omega, fun h => absurd h (Nat.lt_irrefl 0)⟩
            · exact ⟨_, _, cap, e1, hl, fun _ => ⟨g, rfl⟩⟩
          have HP : Hid (Ap w B0 w.heap.size (w.heap.size + 1) GA GB wb.heap.size (.slice ql L cl) vs (fun c _ => c < 0) (fun _ _ => False) (fun (v : Value) (c : Nat) => vs[c]? = some v) (fun (v : Value) (c : Nat) => (v = .slice pa n ca ∧ c = 7) ∨ (v = .slice pb n cb ∧ c = 8)) wr) := by
            refine ⟨⟨fun v c hv => ?_, fun v c hv v' c' hv' hne g hg hg' => ?_⟩, ⟨fun v c hv => ?_, fun v c hv v' c' hv' hne g hg hg' => ?_⟩, by rw [hvl] at ho3 ⊢; exact ho3, hbw.mono (Nat.le_trans RS.out.2.2.2.2.1 RS.out.2.2.2.2.2), Nat.le_trans (Nat.le_trans RS.out.2.2.2.2.1 RS.out.2.2.2.2.2) hbw.size, by rw [hGA]; exact LAt.later LA.out.1 hb3, by rw [hGB]; exact LAt.later LA.out.2.1 hb3⟩
            · obtain ⟨l, o, -⟩ := hea c v hv
              have e := vlen_own o
              exact ⟨IC l, by rw [e]; exact o, fun m u hu hd => absurd hd (Nat.not_lt_zero _)⟩
            · rcases Nat.lt_or_ge c c' with a | a
              · exact Nat.lt_irrefl _ (hsep c v hv c' v' hv' a g g hg hg')
              · exact Nat.lt_irrefl _ (hsep c' v' hv' c v hv (by omega) g g hg' hg)
            · rcases hv with ⟨rfl, rfl⟩ | ⟨rfl, rfl⟩
              · have o := (XA.out.1.later hb3).row
                rw [hlen] at o
                exact ⟨_, o, fun m u hu hd => hd.elim⟩
              · have o := (XA.out.2.later hb3).row
                rw [hlen] at o
                exact ⟨_, own_at o (fun g hg => Nat.le_trans RS.out.2.2.2.2.1 (o.lt g hg).1) rfl, fun m u hu hd => hd.elim⟩
            · have oa := (XA.out.1.later hb3).row
              have ob := (XA.out.2.later hb3).row
              have key : ∀ g, (Value.slice pa n ca).ownBlock = some g → (Value.slice pb n cb).ownBlock ≠ some g := fun g h1 h2 => by
                have h3 := (ob.lt g h2).1
                rcases oa.2 with ⟨e1, e2⟩ | ⟨g', cap, cur, e1, _⟩
                · injection e1 with e1
                  subst e1; cases h1
                · injection e1 with e1
                  subst e1
                  have h4 := RS.out.2.2.1 g' rfl
                  simp only [Value.ownBlock, Option.some.injEq] at h1
                  omega
              rcases hv with ⟨rfl, rfl⟩ | ⟨rfl, rfl⟩ <;> rcases hv' with ⟨rfl, rfl⟩ | ⟨rfl, rfl⟩
              · exact hne rfl
              · exact key g hg hg'
              · exact key g hg' hg
              · exact hne rfl
          have HVL : Hid (vs.length = L) := hvl
          have HL2 : Hid (L = n + n) := hL2
          have HGAB : Hid (GA = gcells ta la fa (.slice pa n ca) ∧ GB = gcells tb lb fb (.slice pb n cb)) := ⟨hGA, hGB⟩
          rw [← hql, ← hL, ← hcl]
          clear hea hsep ho3 hb3 hbw hvs hql hcl hGA hGB hvl HI hL hL2 hkn XA LA RS hla hlb hlen
          go_wp2_with fail
          go_loopw [58] (fun i wr => ∃ k : Nat, k ≤ L ∧ i = .int .i64 k ∧ Hid (Ap w B0 w.heap.size (w.heap.size + 1) GA GB wb.heap.size (.slice ql L cl) vs (fun c _ => c < k) (fun _ _ => False) (fun (v : Value) (c : Nat) => vs[c]? = some v) (fun (v : Value) (c : Nat) => (v = .slice pa n ca ∧ c = 7) ∨ (v = .slice pb n cb ∧ c = 8)) wr)) (fun i _ => L - (intOf i).toNat)
          case atStart => exact ⟨0, Nat.zero_le _, rfl, HP.out⟩
          case round =>
            clear HP
            obtain ⟨k, hk, rfl, HI⟩ := hrel
            obtain ⟨wo, hwo⟩ : ∃ wo, wo = wr := ⟨_, rfl⟩
            subst hwo
            by_cases hlt : k < L
            · obtain ⟨u, hu⟩ : ∃ u, vs[k]? = some u := ⟨_, List.getElem?_eq_getElem (by rw [HVL.out]; exact hlt)⟩
              obtain ⟨q, m, c2, rfl, hm100, hq⟩ := HV.out k u hu
              obtain ⟨gl, rfl, hcell, -⟩ := list_at HI.out.li hu
              have z1 : wo.cell? ⟨gl, k, none⟩ = some (.slice q m c2) := hcell
              have HU : Hid (vs[k]? = some (.slice q m c2)) := hu
              have HQ : Hid (0 < m → ∃ g, q = some ⟨g, 0, none⟩) := hq
              have i1 : (k : Int) < (L : Int) := by omega
              have i0 : (0 : Int) ≤ (k : Int) := by omega
              have HP4 : Hid (Ap w B0 w.heap.size (w.heap.size + 1) GA GB wb.heap.size (.slice (some ⟨gl, 0, none⟩) L cl) vs (fun c x => c < k ∨ (c = k ∧ x < 0 * 33)) (fun _ _ => False) (fun (v : Value) (c : Nat) => vs[c]? = some v) (fun (v : Value) (c : Nat) => (v = .slice pa n ca ∧ c = 7) ∨ (v = .slice pb n cb ∧ c = 8)) wo) :=
                ⟨HI.out.im.weak fun v c _ x _ h => by rcases h with h | ⟨_, h⟩; exact h; omega, HI.out.tx, HI.out.li, HI.out.low, HI.out.sz, HI.out.ba, HI.out.bb⟩
              clear hcell hu hq HI
              go_wp2_with fail
              clear z1
              go_loopw [66] (fun i wr => ∃ j : Nat, j ≤ m ∧ i = .int .i64 j ∧ Hid (Ap w B0 w.heap.size (w.heap.size + 1) GA GB wb.heap.size (.slice (some ⟨gl, 0, none⟩) L cl) vs (fun c x => c < k ∨ (c = k ∧ x < j * 33)) (fun _ _ => False) (fun (v : Value) (c : Nat) => vs[c]? = some v) (fun (v : Value) (c : Nat) => (v = .slice pa n ca ∧ c = 7) ∨ (v = .slice pb n cb ∧ c = 8)) wr)) (fun i _ => m - (intOf i).toNat)
              case atStart => exact ⟨0, Nat.zero_le _, rfl, HP4.out⟩
              case round =>
                clear HP4
                obtain ⟨j, hj, rfl, HJ⟩ := hrel
                by_cases hjt : j < m
                · obtain ⟨g, rfl⟩ := HQ.out (by omega)
                  obtain ⟨gl', egl, hcell, -⟩ := list_at HJ.out.li HU.out
                  have z1 : wr.cell? ⟨gl, k, none⟩ = some (.slice (some ⟨g, 0, none⟩) m c2) := by cases egl; exact hcell
                  obtain ⟨W', hst, hap⟩ := ap_mark HJ.out (D' := fun c x => c < k ∨ (c = k ∧ x < (j + 1) * 33)) (g := g) (n := m) (c := c2) (i := k) HU.out (fun v hv => by have h2 := HU.out; rw [hv] at h2; exact Option.some.inj h2) j hjt (fun c x h => by omega)
                  have T18 : Hid ((Instr.storeAt 57 (.pointer (some ⟨g, j * 33, none⟩)) (.agg (icells ⟨1000 + (k : Int), zs 32⟩).toArray)).run Tryz.prog wr = .ok () W') := hst
                  have U18 : Hid (_) := buildIb wr (1000 + (k : Int))
                  have HN : Hid (_) := hap
                  have hwr := wrap1000 (k := k) (by omega)
                  have j1 : (j : Int) < (m : Int) := by omega
                  have j0 : (0 : Int) ≤ (j : Int) := by omega
                  clear hcell egl hst hap HJ
                  go_wp2_with ((with_reducible refine at_ops ?_); (first | (refine wpList_build_is (vs := [(0, .int .i64 (1000 + (k : Int)))]) (by rfl) 57 rfl (by rfl) U18.out ?_; simp only [Act.put, List.setIfInBounds_toArray, List.set_cons_zero, List.set_cons_succ]) | (refine wpList_store_is (by rfl) 57 rfl rfl rfl T18.out ?_; simp only [Act.put])))
                  clear T18 U18 z1 hwr
                  go_wp2_with fail
                  go_roundw
                  case rel => exact ⟨j + 1, by omega, by go_num, HN.out⟩
                  case measure => simp [intOf]; omega
                · have hjn : ¬ (j : Int) < (m : Int) := by omega
                  have HN : Hid (Ap w B0 w.heap.size (w.heap.size + 1) GA GB wb.heap.size (.slice (some ⟨gl, 0, none⟩) L cl) vs (fun c _ => c < k + 1) (fun _ _ => False) (fun (v : Value) (c : Nat) => vs[c]? = some v) (fun (v : Value) (c : Nat) => (v = .slice pa n ca ∧ c = 7) ∨ (v = .slice pb n cb ∧ c = 8)) wr) :=
                    ⟨HJ.out.im.weak fun v c hv x hx h => by
                      rcases Nat.lt_or_ge c k with a | a
                      · exact .inl a
                      · have ec : c = k := by omega
                        subst ec
                        have h2 := HU.out
                        rw [hv] at h2
                        have e2 := Option.some.inj h2
                        rw [e2] at hx
                        have hx' : x < m * 33 := hx
                        have hjm : j = m := by omega
                        rw [hjm]
                        exact .inr ⟨rfl, hx'⟩, HJ.out.tx, HJ.out.li, HJ.out.low, HJ.out.sz, HJ.out.ba, HJ.out.bb⟩
                  clear HJ
                  go_wp2_with fail
                  go_roundw
                  case rel => exact ⟨k + 1, by omega, by go_num, HN.out⟩
                  case measure => simp [intOf]; omega
            · have hnl : ¬ (k : Int) < (L : Int) := by omega
              have HP5 : Hid (Ap w B0 w.heap.size (w.heap.size + 1) GA GB wb.heap.size (.slice ql L cl) vs (fun _ _ => True) (fun c x => c = 7 ∧ x % 2 = 0 ∧ x < 0 * 2) (fun (v : Value) (c : Nat) => vs[c]? = some v) (fun (v : Value) (c : Nat) => (v = .slice pa n ca ∧ c = 7) ∨ (v = .slice pb n cb ∧ c = 8)) wo) :=
                ⟨HI.out.im.weak fun v c hv x hx _ => by
                  have := (List.getElem?_eq_some_iff.1 hv).1
                  have := HVL.out
                  show c < k
                  omega, HI.out.tx.weak fun v c hv x hx h => by omega, HI.out.li, HI.out.low, HI.out.sz, HI.out.ba, HI.out.bb⟩
              have a5 : wo.cell? ⟨w.heap.size, 3, none⟩ = some (.slice pa n ca) := by have h := LAt.cell HI.out.ba 3; rw [HGAB.out.1] at h; exact h
              clear HI
              go_wp2_with fail
              clear a5
              go_loopw [83] (fun i wr => ∃ k : Nat, k ≤ n ∧ i = .int .i64 k ∧ Hid (Ap w B0 w.heap.size (w.heap.size + 1) GA GB wb.heap.size (.slice ql L cl) vs (fun _ _ => True) (fun c x => c = 7 ∧ x % 2 = 0 ∧ x < k * 2) (fun (v : Value) (c : Nat) => vs[c]? = some v) (fun (v : Value) (c : Nat) => (v = .slice pa n ca ∧ c = 7) ∨ (v = .slice pb n cb ∧ c = 8)) wr)) (fun i _ => n - (intOf i).toNat)
              case atStart => exact ⟨0, Nat.zero_le _, rfl, HP5.out⟩
              case round =>
                clear HP5
                obtain ⟨k, hk, rfl, HI⟩ := hrel
                by_cases hlt : k < n
                · have hG : (fun (v : Value) (c : Nat) => (v = .slice pa n ca ∧ c = 7) ∨ (v = .slice pb n cb ∧ c = 8)) (.slice pa n ca) 7 := .inl ⟨rfl, rfl⟩
                  obtain ⟨q7, n7, c7, e7, hq7⟩ := HI.out.tx.form hG
                  injection e7 with e7 e8 e9
                  obtain ⟨g, hg⟩ := hq7 (by omega)
                  have hpg : pa = some ⟨g, 0, none⟩ := by rw [e7, hg]
                  subst hpg
                  have z1 : wr.cell? ⟨w.heap.size, 3, none⟩ = some (.slice (some ⟨g, 0, none⟩) n ca) := by have h := LAt.cell HI.out.ba 3; rw [HGAB.out.1] at h; exact h
                  have hap := HI.out.posit (D' := (fun c x => c = 7 ∧ x % 2 = 0 ∧ x < (k + 1) * 2)) (g := g) (n := n) (c := ca) (i := 7) hG (fun v hv => by rcases hv with ⟨h, e⟩ | ⟨h, e⟩ <;> first | exact h | cases e) k hlt (fun c x h => by omega)
                  have HN : Hid (Ap w B0 w.heap.size (w.heap.size + 1) GA GB wb.heap.size (.slice ql L cl) vs (fun _ _ => True) (fun c x => c = 7 ∧ x % 2 = 0 ∧ x < (k + 1) * 2) (fun (v : Value) (c : Nat) => vs[c]? = some v) (fun (v : Value) (c : Nat) => (v = .slice (some ⟨g, 0, none⟩) n ca ∧ c = 7) ∨ (v = .slice pb n cb ∧ c = 8)) (wr.setCell ⟨g, k * 2, none⟩ (.int .u64 7))) := hap
                  obtain ⟨z2v, z2, z3⟩ := HI.out.tx.cellAt hG k hlt
                  have i1 : (k : Int) < (n : Int) := by omega
                  have i0 : (0 : Int) ≤ (k : Int) := by omega
                  clear hap hG e7 e8 e9 hq7 hg HI
                  go_wp2_with fail
                  go_roundw
                  case rel => exact ⟨k + 1, by omega, by go_num, HN.out⟩
                  case measure => simp [intOf]; omega
                · have hnl : ¬ (k : Int) < (n : Int) := by omega
                  have HP6 : Hid (Ap w B0 w.heap.size (w.heap.size + 1) GA GB wb.heap.size (.slice ql L cl) vs (fun _ _ => True) (fun c x => x % 2 = 0 ∧ (c = 7 ∨ (c = 8 ∧ x < 0 * 2))) (fun (v : Value) (c : Nat) => vs[c]? = some v) (fun (v : Value) (c : Nat) => (v = .slice pa n ca ∧ c = 7) ∨ (v = .slice pb n cb ∧ c = 8)) wr) :=
                    ⟨HI.out.im, HI.out.tx.weak fun v c hv x hx h => by
                      rcases hv with ⟨rfl, rfl⟩ | ⟨rfl, rfl⟩
                      · have hx' : x < n * 2 := hx
                        exact ⟨rfl, h.1, by omega⟩
                      · obtain ⟨_, h | ⟨_, h⟩⟩ := h
                        · cases h
                        · omega, HI.out.li, HI.out.low, HI.out.sz, HI.out.ba, HI.out.bb⟩
                  have a6 : wr.cell? ⟨w.heap.size + 1, 3, none⟩ = some (.slice pb n cb) := by have h := LAt.cell HI.out.bb 3; rw [HGAB.out.2] at h; exact h
                  clear HI
                  go_wp2_with fail
                  clear a6
                  go_loopw [95] (fun i wr => ∃ k : Nat, k ≤ n ∧ i = .int .i64 k ∧ Hid (Ap w B0 w.heap.size (w.heap.size + 1) GA GB wb.heap.size (.slice ql L cl) vs (fun _ _ => True) (fun c x => x % 2 = 0 ∧ (c = 7 ∨ (c = 8 ∧ x < k * 2))) (fun (v : Value) (c : Nat) => vs[c]? = some v) (fun (v : Value) (c : Nat) => (v = .slice pa n ca ∧ c = 7) ∨ (v = .slice pb n cb ∧ c = 8)) wr)) (fun i _ => n - (intOf i).toNat)
                  case atStart => exact ⟨0, Nat.zero_le _, rfl, HP6.out⟩
                  case round =>
                    clear HP6
                    obtain ⟨k, hk, rfl, HI⟩ := hrel
                    by_cases hlt : k < n
                    · have hG : (fun (v : Value) (c : Nat) => (v = .slice pa n ca ∧ c = 7) ∨ (v = .slice pb n cb ∧ c = 8)) (.slice pb n cb) 8 := .inr ⟨rfl, rfl⟩
                      obtain ⟨q7, n7, c7, e7, hq7⟩ := HI.out.tx.form hG
                      injection e7 with e7 e8 e9
                      obtain ⟨g, hg⟩ := hq7 (by omega)
                      have hpg : pb = some ⟨g, 0, none⟩ := by rw [e7, hg]
                      subst hpg
                      have z1 : wr.cell? ⟨w.heap.size + 1, 3, none⟩ = some (.slice (some ⟨g, 0, none⟩) n cb) := by have h := LAt.cell HI.out.bb 3; rw [HGAB.out.2] at h; exact h
                      have hap := HI.out.posit (D' := (fun c x => x % 2 = 0 ∧ (c = 7 ∨ (c = 8 ∧ x < (k + 1) * 2)))) (g := g) (n := n) (c := cb) (i := 8) hG (fun v hv => by rcases hv with ⟨h, e⟩ | ⟨h, e⟩ <;> first | exact h | cases e) k hlt (fun c x h => by omega)
                      have HN : Hid (Ap w B0 w.heap.size (w.heap.size + 1) GA GB wb.heap.size (.slice ql L cl) vs (fun _ _ => True) (fun c x => x % 2 = 0 ∧ (c = 7 ∨ (c = 8 ∧ x < (k + 1) * 2))) (fun (v : Value) (c : Nat) => vs[c]? = some v) (fun (v : Value) (c : Nat) => (v = .slice pa n ca ∧ c = 7) ∨ (v = .slice (some ⟨g, 0, none⟩) n cb ∧ c = 8)) (wr.setCell ⟨g, k * 2, none⟩ (.int .u64 8))) := hap
                      obtain ⟨z2v, z2, z3⟩ := HI.out.tx.cellAt hG k hlt
                      have i1 : (k : Int) < (n : Int) := by omega
                      have i0 : (0 : Int) ≤ (k : Int) := by omega
                      clear hap hG e7 e8 e9 hq7 hg HI
                      go_wp2_with fail
                      go_roundw
                      case rel => exact ⟨k + 1, by omega, by go_num, HN.out⟩
                      case measure => simp [intOf]; omega
                    · have hnl : ¬ (k : Int) < (n : Int) := by omega
                      have hlb : ∀ g, (Value.slice ql L cl).ownBlock = some g → g < wr.heap.size := fun g hg => (HI.out.li.lt g hg).2
                      have HP7 : Hid (Lgr w B0 w.heap.size (w.heap.size + 1) GA GB wb.heap.size (.slice ql L cl) vs (fun (v : Value) (c : Nat) => vs[c]? = some v) (fun (v : Value) (c : Nat) => (v = .slice pa n ca ∧ c = 7) ∨ (v = .slice pb n cb ∧ c = 8)) wr.heap.size (.slice none 0 0) [] wr) :=
                        ⟨⟨HI.out.im, HI.out.tx.even fun v c hv x hx h => by
                          rcases hv with ⟨rfl, rfl⟩ | ⟨rfl, rfl⟩
                          · exact ⟨h, .inl rfl⟩
                          · have hx' : x < n * 2 := hx
                            exact ⟨h, .inr ⟨rfl, by omega⟩⟩, HI.out.li, HI.out.low, HI.out.sz, HI.out.ba, HI.out.bb⟩, fun c u hu => hu, World.ownsRow_nil _ _ _ _, fun m u hu => (by cases hu), Nat.le_refl _⟩
                      obtain ⟨Bg, hBg⟩ : ∃ Bg, Bg = wr.heap.size := ⟨_, rfl⟩
                      rw [← hBg] at HP7 hlb
                      have HB : Hid ((∀ g, (Value.slice ql L cl).ownBlock = some g → g < Bg) ∧ B0 ≤ Bg) := ⟨hlb, by rw [hBg]; exact HI.out.sz⟩
                      clear HI hlb hBg
                      go_wp2_with fail
                      go_loopw [12, 13] (fun v i wr => ∃ N : Nat, 1 ≤ N ∧ N ≤ 17 ∧ i = .int .i64 N ∧ ∃ qg mg cg, v = .slice qg mg cg ∧ Hid (mg = (N - 1) * L ∧ ∃ F ls, ls.length = mg ∧ Lgr w B0 w.heap.size (w.heap.size + 1) GA GB wb.heap.size (.slice ql L cl) vs F (fun (v : Value) (c : Nat) => (v = .slice pa n ca ∧ c = 7) ∨ (v = .slice pb n cb ∧ c = 8)) Bg (.slice qg mg cg) ls wr)) (fun _ i _ => 17 - (intOf i).toNat)
                      case atStart => exact ⟨1, Nat.le_refl _, by omega, rfl, none, 0, 0, rfl, by omega, _, [], rfl, HP7.out⟩
                      case round =>
                        clear HP7
                        obtain ⟨N, hN1, hN2, rfl, qg, mg, cg, rfl, HI⟩ := hrel
                        obtain ⟨wo, hwo⟩ : ∃ wo, wo = wr := ⟨_, rfl⟩
                        subst hwo
                        by_cases hNt : N ≤ 16
                        · have i1 : (N : Int) ≤ 16 := by omega
                          have HJ0 : Hid (mg = (N - 1) * L + 0 ∧ ∃ F ls, ls.length = mg ∧ Lgr w B0 w.heap.size (w.heap.size + 1) GA GB wb.heap.size (.slice ql L cl) vs F (fun (v : Value) (c : Nat) => (v = .slice pa n ca ∧ c = 7) ∨ (v = .slice pb n cb ∧ c = 8)) Bg (.slice qg mg cg) ls wo) := HI.out
                          clear HI
                          go_wp2_with fail
                          go_loopw [12, 110] (fun v i wr => ∃ k : Nat, k ≤ L ∧ i = .int .i64 k ∧ ∃ qg mg cg, v = .slice qg mg cg ∧ Hid (mg = (N - 1) * L + k ∧ ∃ F ls, ls.length = mg ∧ Lgr w B0 w.heap.size (w.heap.size + 1) GA GB wb.heap.size (.slice ql L cl) vs F (fun (v : Value) (c : Nat) => (v = .slice pa n ca ∧ c = 7) ∨ (v = .slice pb n cb ∧ c = 8)) Bg (.slice qg mg cg) ls wr)) (fun _ i _ => L - (intOf i).toNat)
                          case atStart => exact ⟨0, Nat.zero_le _, rfl, qg, mg, cg, rfl, HJ0.out⟩
                          case round =>
                            clear HJ0
                            obtain ⟨k, hk, rfl, qg, mg, cg, rfl, HJ⟩ := hrel
                            obtain ⟨wp, hwp⟩ : ∃ wp, wp = wr := ⟨_, rfl⟩
                            subst hwp
                            by_cases hlt : k < L
                            · obtain ⟨u, hu⟩ : ∃ u, vs[k]? = some u := ⟨_, List.getElem?_eq_getElem (by rw [HVL.out]; exact hlt)⟩
                              obtain ⟨q, m, c2, rfl, hm100, hq⟩ := HV.out k u hu
                              have hmg : mg = (N - 1) * L + k := HJ.out.1
                              have HX0 : Hid (m = m + 0 ∧ ∃ F ls, ls.length = mg ∧ F (.slice q m c2) k ∧ Lgr w B0 w.heap.size (w.heap.size + 1) GA GB wb.heap.size (.slice ql L cl) vs F (fun (v : Value) (c : Nat) => (v = .slice pa n ca ∧ c = 7) ∨ (v = .slice pb n cb ∧ c = 8)) Bg (.slice qg mg cg) ls wp) := by
                                obtain ⟨F, ls, h1, h2⟩ := HJ.out.2
                                exact ⟨rfl, F, ls, h1, h2.vf k _ hu, h2⟩
                              obtain ⟨gl, hgl, hcell⟩ : ∃ gl, ql = some ⟨gl, 0, none⟩ ∧ wp.cell? ⟨gl, k, none⟩ = some (.slice q m c2) := by
                                obtain ⟨F, ls, h1, h2⟩ := HJ.out.2
                                obtain ⟨gl, e, h3, -⟩ := list_at h2.ap.li hu
                                exact ⟨gl, e, h3⟩
                              subst hgl
                              have HMG : Hid (mg = (N - 1) * L + k) := hmg
                              have j1 : (k : Int) < (L : Int) := by omega
                              have j0 : (0 : Int) ≤ (k : Int) := by omega
                              have hmgl : mg ≤ 4000 := by
                                have := Nat.mul_le_mul (show N - 1 ≤ 16 by omega) hLl
                                omega
                              clear hu hq HJ hmg
                              go_wp2_with fail
                              clear hcell
                              go_loopw [15, 16] (fun v i wr => ∃ j : Nat, j ≤ 60 ∧ (N ≠ 16 → j ≤ N) ∧ i = .int .i64 j ∧ ∃ qx mx cx, v = .slice qx mx cx ∧ Hid (mx = m + j ∧ ∃ F ls, ls.length = mg ∧ F (.slice qx mx cx) k ∧ Lgr w B0 w.heap.size (w.heap.size + 1) GA GB wb.heap.size (.slice (some ⟨gl, 0, none⟩) L cl) vs F (fun (v : Value) (c : Nat) => (v = .slice pa n ca ∧ c = 7) ∨ (v = .slice pb n cb ∧ c = 8)) Bg (.slice qg mg cg) ls wr)) (fun _ i _ => 60 - (intOf i).toNat)
                              case atStart => exact ⟨0, Nat.zero_le _, fun _ => Nat.zero_le _, rfl, q, m, c2, rfl, HX0.out⟩
                              case round =>
                                clear HX0
                                obtain ⟨j, hj60, hjN, rfl, qx, mx, cx, rfl, HX⟩ := hrel
                                obtain ⟨c16, hc16⟩ : ∃ c16, ((N : Int) == 16) = c16 := ⟨_, rfl⟩
                                by_cases hgo : j < N ∨ (N = 16 ∧ j < 60)
                                · obtain ⟨q', c', W', hrun, HN⟩ : ∃ q' c' W', Hid ((Builtin.append_ #[52, 52] 52 #[.slice qx mx cx, .slice (some ⟨wr.heap.size, 0, none⟩) 1 1]).run Tryz.prog (wr.alloc (.cells (icells ⟨1000 + (k : Int), zs 32⟩).toArray 57)) = .ok (.slice q' (mx + 1) c') W') ∧ Hid (mx + 1 = m + (j + 1) ∧ ∃ F ls, ls.length = mg ∧ F (.slice q' (mx + 1) c') k ∧ Lgr w B0 w.heap.size (w.heap.size + 1) GA GB wb.heap.size (.slice (some ⟨gl, 0, none⟩) L cl) vs F (fun (v : Value) (c : Nat) => (v = .slice pa n ca ∧ c = 7) ∨ (v = .slice pb n cb ∧ c = 8)) Bg (.slice qg mg cg) ls W') := by
                                    obtain ⟨h0, F, ls, h1, h2, h3⟩ := HX.out
                                    obtain ⟨q', c', W', F', hr, h4, h5⟩ := h3.app h2 (by omega)
                                    exact ⟨q', c', W', hr, by omega, F', ls, h1, h5, h4⟩
                                  have U42 : Hid (_) := buildIb wr (1000 + (k : Int))
                                  have V42 : Hid (_) := build_im wr ⟨1000 + (k : Int), zs 32⟩ (zs_len 32)
                                  have hwr := wrap1000 (k := k) (by omega)
                                  have hjn2 : (N ≠ 16 → j + 1 ≤ N) ∧ j + 1 ≤ 60 := by omega
                                  clear HX
                                  by_cases hA : j < N
                                  · have i2 : (j : Int) < (N : Int) := by omega
                                    clear hc16
                                    go_wp2_with ((with_reducible refine at_ops ?_); (first | (refine wpList_build_is (vs := [(0, .int .i64 (1000 + (k : Int)))]) (by rfl) 57 rfl (by rfl) U42.out ?_) | (refine wpList_slice_is (u := .agg (icells ⟨1000 + (k : Int), zs 32⟩).toArray) (by rfl) 52 rfl rfl V42.out ?_) | (refine wpList_append_is (u1 := .slice qx mx cx) (u2 := .slice (some ⟨wr.heap.size, 0, none⟩) 1 1) (by rfl) rfl rfl rfl rfl hrun.out ?_)); simp only [Act.put, List.setIfInBounds_toArray, List.set_cons_zero, List.set_cons_succ])
                                    clear U42 V42 hrun hwr
                                    go_wp2_with fail
                                    go_roundw
                                    case rel => exact ⟨j + 1, hjn2.2, hjn2.1, by go_num, q', mx + 1, c', rfl, HN.out⟩
                                    case measure => simp [intOf]; omega
                                  · have i2 : ¬ (j : Int) < (N : Int) := by omega
                                    have i3 : (j : Int) < 60 := by omega
                                    have hct : c16 = true := by rw [← hc16]; simp; omega
                                    go_wp2_with ((with_reducible refine at_ops ?_); (first | (refine wpList_build_is (vs := [(0, .int .i64 (1000 + (k : Int)))]) (by rfl) 57 rfl (by rfl) U42.out ?_) | (refine wpList_slice_is (u := .agg (icells ⟨1000 + (k : Int), zs 32⟩).toArray) (by rfl) 52 rfl rfl V42.out ?_) | (refine wpList_append_is (u1 := .slice qx mx cx) (u2 := .slice (some ⟨wr.heap.size, 0, none⟩) 1 1) (by rfl) rfl rfl rfl rfl hrun.out ?_)); simp only [Act.put, List.setIfInBounds_toArray, List.set_cons_zero, List.set_cons_succ])
                                    clear U42 V42 hrun hwr
                                    go_wp2_with fail
                                    go_roundw
                                    case rel => exact ⟨j + 1, hjn2.2, hjn2.1, by go_num, q', mx + 1, c', rfl, HN.out⟩
                                    case measure => simp [intOf]; omega
                                · have i2 : ¬ (j : Int) < (N : Int) := by omega
                                  obtain ⟨q', c', W', hrun, HN⟩ : ∃ q' c' W', Hid ((Builtin.append_ #[100, 100] 100 #[.slice qg mg cg, .slice (some ⟨wr.heap.size, 0, none⟩) 1 1]).run Tryz.prog (wr.alloc (.cells #[.slice qx mx cx] 52)) = .ok (.slice q' (mg + 1) c') W') ∧ Hid (mg + 1 = (N - 1) * L + (k + 1) ∧ ∃ F ls, ls.length = mg + 1 ∧ Lgr w B0 w.heap.size (w.heap.size + 1) GA GB wb.heap.size (.slice (some ⟨gl, 0, none⟩) L cl) vs F (fun (v : Value) (c : Nat) => (v = .slice pa n ca ∧ c = 7) ∨ (v = .slice pb n cb ∧ c = 8)) Bg (.slice q' (mg + 1) c') ls W') := by
                                    obtain ⟨h0, F, ls, h1, h2, h3⟩ := HX.out
                                    have hmod : ls.length % vs.length = k := by rw [h1, HMG.out, HVL.out, Nat.mul_comm, Nat.mul_add_mod, Nat.mod_eq_of_lt hlt]
                                    obtain ⟨q', c', W', hr, h4⟩ := h3.push HB.out.2 HB.out.1 (by rw [hmod]; exact h2) (by omega)
                                    rw [h1] at hr h4
                                    exact ⟨q', c', W', hr, by have := HMG.out; omega, F, _, by rw [List.length_append, h1]; rfl, h4⟩
                                  have V43 : Hid (_) := build_list wr qx mx cx
                                  clear HX
                                  by_cases hB : N = 16
                                  · have i3 : ¬ (j : Int) < 60 := by omega
                                    have hct : c16 = true := by rw [← hc16]; simp; omega
                                    clear hB
                                    go_wp2_with ((with_reducible refine at_ops ?_); (first | (refine wpList_slice_is (u := .slice qx mx cx) (by rfl) 100 rfl rfl V43.out ?_) | (refine wpList_append_is (u1 := .slice qg mg cg) (u2 := .slice (some ⟨wr.heap.size, 0, none⟩) 1 1) (by rfl) rfl rfl rfl rfl hrun.out ?_)); simp only [Act.put, List.setIfInBounds_toArray, List.set_cons_zero, List.set_cons_succ])
                                    clear V43 hrun
                                    go_wp2_with fail
                                    go_roundw
                                    case rel => exact ⟨k + 1, by omega, by go_num, q', mg + 1, c', rfl, HN.out⟩
                                    case measure => simp [intOf]; omega
                                  · have hct : c16 = false := by rw [← hc16]; simp; omega
                                    clear hB
                                    go_wp2_with ((with_reducible refine at_ops ?_); (first | (refine wpList_slice_is (u := .slice qx mx cx) (by rfl) 100 rfl rfl V43.out ?_) | (refine wpList_append_is (u1 := .slice qg mg cg) (u2 := .slice (some ⟨wr.heap.size, 0, none⟩) 1 1) (by rfl) rfl rfl rfl rfl hrun.out ?_)); simp only [Act.put, List.setIfInBounds_toArray, List.set_cons_zero, List.set_cons_succ])
                                    clear V43 hrun
                                    go_wp2_with fail
                                    go_roundw
                                    case rel => exact ⟨k + 1, by omega, by go_num, q', mg + 1, c', rfl, HN.out⟩
                                    case measure => simp [intOf]; omega
                            · have hnl : ¬ (k : Int) < (L : Int) := by omega
                              have HN : Hid (mg = (N + 1 - 1) * L ∧ ∃ F ls, ls.length = mg ∧ Lgr w B0 w.heap.size (w.heap.size + 1) GA GB wb.heap.size (.slice ql L cl) vs F (fun (v : Value) (c : Nat) => (v = .slice pa n ca ∧ c = 7) ∨ (v = .slice pb n cb ∧ c = 8)) Bg (.slice qg mg cg) ls wp) := by
                                refine ⟨?_, HJ.out.2⟩
                                have h1 := HJ.out.1
                                obtain ⟨N', rfl⟩ : ∃ N', N = N' + 1 := ⟨N - 1, by omega⟩
                                rw [Nat.add_sub_cancel] at h1 ⊢
                                rw [Nat.add_mul, Nat.one_mul]
                                omega
                              clear HJ
                              go_wp2_with fail
                              go_roundw
                              case rel => exact ⟨N + 1, by omega, by omega, by go_num, qg, mg, cg, rfl, HN.out⟩
                              case measure => simp [intOf]; omega
                        · have hnl : ¬ (N : Int) ≤ 16 := by omega
                          have HP8 : Hid (mg = 16 * L ∧ ∃ F ls, ls.length = mg ∧ Lgr w B0 w.heap.size (w.heap.size + 1) GA GB wb.heap.size (.slice ql L cl) vs F (fun (v : Value) (c : Nat) => (v = .slice pa n ca ∧ c = 7) ∨ (v = .slice pb n cb ∧ c = 8)) Bg (.slice qg mg cg) ls wo) := by
                            have e : N = 17 := by omega
                            have h := HI.out
                            rw [e] at h
                            exact h
                          have a7 : wo.cell? ⟨w.heap.size, 3, none⟩ = some (.slice pa n ca) := by
                            obtain ⟨-, F, ls, -, h⟩ := HI.out
                            have h2 := LAt.cell h.ap.ba 3; rw [HGAB.out.1] at h2; exact h2
                          have a8 : wo.cell? ⟨w.heap.size + 1, 3, none⟩ = some (.slice pb n cb) := by
                            obtain ⟨-, F, ls, -, h⟩ := HI.out
                            have h2 := LAt.cell h.ap.bb 3; rw [HGAB.out.2] at h2; exact h2
                          clear HI
                          go_wp2_with fail
                          have a7' : wo.drew.cell? ⟨w.heap.size, 3, none⟩ = some (.slice pa n ca) := a7
                          have a8' : wo.drew.cell? ⟨w.heap.size + 1, 3, none⟩ = some (.slice pb n cb) := a8
                          go_quiet (fail)
                          clear a7 a8 a7' a8'
                          have HP9 : Hid (mg = 16 * L ∧ ∃ F ls G, ls.length = mg ∧ Lgr w B0 w.heap.size (w.heap.size + 1) GA GB wb.heap.size (.slice ql L cl) vs F G Bg (.slice qg mg cg) ls (wo.drewN nq) ∧ G (.slice pa n ca) 7 ∧ G (.slice pb n cb) 8 ∧ G (.slice pa n ca) 7 ∧ G (.slice pb n cb) 8) := by
                            obtain ⟨h0, F, ls, h1, h⟩ := HP8.out
                            exact ⟨h0, F, ls, _, h1, h.later (below_drawn nq), .inl ⟨rfl, rfl⟩, .inr ⟨rfl, rfl⟩, .inl ⟨rfl, rfl⟩, .inr ⟨rfl, rfl⟩⟩
                          clear HP8
                          generalize wo.drewN nq = we at *
                          go_wp2_with fail
                          go_loopw [17, 18, 19] (fun v u i wr => ∃ k : Nat, k ≤ 16 ∧ i = .int .i64 k ∧ ∃ qx mx cx, v = .slice qx mx cx ∧ ∃ qy my cy, u = .slice qy my cy ∧ Hid (mx = n + k ∧ my = n + k ∧ mg = 16 * L ∧ ∃ F ls G, ls.length = mg ∧ Lgr w B0 w.heap.size (w.heap.size + 1) GA GB wb.heap.size (.slice ql L cl) vs F G Bg (.slice qg mg cg) ls wr ∧ G (.slice qx mx cx) 7 ∧ G (.slice qy my cy) 8 ∧ G (.slice pa n ca) 7 ∧ G (.slice pb n cb) 8)) (fun _ _ i _ => 16 - (intOf i).toNat)
                          case atStart => exact ⟨0, Nat.zero_le _, rfl, pa, n, ca, rfl, pb, n, cb, rfl, rfl, rfl, HP9.out⟩
                          case round =>
                            clear HP9
                            obtain ⟨k, hk, rfl, qx, mx, cx, rfl, qy, my, cy, rfl, HI⟩ := hrel
                            by_cases hlt : k < 16
                            · obtain ⟨q1, c1, w1, q2, c2, w2, H1, H2, HN⟩ : ∃ q1 c1 w1 q2 c2 w2, Hid ((Builtin.append_ #[37, 37] 37 #[.slice qx mx cx, .slice (some ⟨wr.heap.size, 0, none⟩) 1 1]).run Tryz.prog (wr.alloc (.cells #[.int .u64 7, .slice none 0 0] 59)) = .ok (.slice q1 (mx + 1) c1) w1) ∧ Hid ((Builtin.append_ #[37, 37] 37 #[.slice qy my cy, .slice (some ⟨w1.heap.size, 0, none⟩) 1 1]).run Tryz.prog (w1.alloc (.cells #[.int .u64 8, .slice none 0 0] 59)) = .ok (.slice q2 (my + 1) c2) w2) ∧ Hid (mx + 1 = n + (k + 1) ∧ my + 1 = n + (k + 1) ∧ mg = 16 * L ∧ ∃ F ls G, ls.length = mg ∧ Lgr w B0 w.heap.size (w.heap.size + 1) GA GB wb.heap.size (.slice ql L cl) vs F G Bg (.slice qg mg cg) ls w2 ∧ G (.slice q1 (mx + 1) c1) 7 ∧ G (.slice q2 (my + 1) c2) 8 ∧ G (.slice pa n ca) 7 ∧ G (.slice pb n cb) 8) := by
                                obtain ⟨e1, e2, e3, F, ls, G, h1, h2, h3, h4, h5, h6⟩ := HI.out
                                obtain ⟨q1, c1, w1, G1, r1, l1, g1, s1⟩ := h2.appT h3 (by omega)
                                obtain ⟨q2, c2, w2, G2, r2, l2, g2, s2⟩ := l1.appT (s1 _ _ h4) (by omega)
                                exact ⟨q1, c1, w1, q2, c2, w2, r1, r2, by omega, by omega, e3, F, ls, G2, h1, l2, s2 _ _ g1, g2, s2 _ _ (s1 _ _ h5), s2 _ _ (s1 _ _ h6)⟩
                              have i1 : (k : Int) < 16 := by omega
                              have U1 : Hid (_) := build_tx0 wr 7
                              have V1 : Hid (_) := build_tx wr 7 none 0 0
                              have U2 : Hid (_) := build_tx0 w1 8
                              have V2 : Hid (_) := build_tx w1 8 none 0 0
                              clear HI
                              go_wp2_with ((with_reducible refine at_ops ?_); (first | (refine wpList_build_is (vs := [(0, .int .u64 7)]) (by rfl) 59 rfl (by rfl) U1.out ?_) | (refine wpList_slice_is (u := .agg #[.int .u64 7, .slice none 0 0]) (by rfl) 37 rfl rfl V1.out ?_) | (refine wpList_append_is (u1 := .slice qx mx cx) (u2 := .slice (some ⟨wr.heap.size, 0, none⟩) 1 1) (by rfl) rfl rfl rfl rfl H1.out ?_) | (refine wpList_build_is (vs := [(0, .int .u64 8)]) (by rfl) 59 rfl (by rfl) U2.out ?_) | (refine wpList_slice_is (u := .agg #[.int .u64 8, .slice none 0 0]) (by rfl) 37 rfl rfl V2.out ?_) | (refine wpList_append_is (u1 := .slice qy my cy) (u2 := .slice (some ⟨w1.heap.size, 0, none⟩) 1 1) (by rfl) rfl rfl rfl rfl H2.out ?_)); simp only [Act.put, List.setIfInBounds_toArray, List.set_cons_zero, List.set_cons_succ])
                              clear U1 V1 U2 V2 H1 H2
                              go_wp2_with fail
                              go_roundw
                              case rel => exact ⟨k + 1, by omega, by go_num, q1, mx + 1, c1, rfl, q2, my + 1, c2, rfl, HN.out⟩
                              case measure => simp [intOf]; omega
                            · have hnl : ¬ (k : Int) < 16 := by omega
                              have HP10 : Hid (mx = n + 16 ∧ my = n + 16 ∧ mg = 16 * L ∧ ∃ F ls G, ls.length = mg ∧ Lgr w B0 w.heap.size (w.heap.size + 1) GA GB wb.heap.size (.slice ql L cl) vs F G Bg (.slice qg mg cg) ls wr ∧ G (.slice qx mx cx) 7 ∧ G (.slice qy my cy) 8 ∧ G (.slice pa n ca) 7 ∧ G (.slice pb n cb) 8) := by
                                have e : k = 16 := by omega
                                have h := HI.out
                                rw [e] at h
                                exact h
                              clear HI
                              obtain ⟨wz, hwz⟩ : ∃ wz, wz = wr := ⟨_, rfl⟩
                              subst hwz
                              have hmgl : mg ≤ 4000 := by have := HP10.out.2.2.1; omega
                              have hmxl : mx ≤ 200 := by have := HP10.out.1; omega
                              go_wp2_with fail
                              go_loopw [159] (fun i wr => ∃ k : Nat, k ≤ mg ∧ i = .int .i64 k ∧ Hid (Below wz.heap.size wz wr)) (fun i _ => mg - (intOf i).toNat)
                              case atStart => exact ⟨0, Nat.zero_le _, rfl, Below.refl _ _⟩
                              case round =>
                                obtain ⟨k, hk, rfl, Br⟩ := hrel
                                obtain ⟨wo, hwo⟩ : ∃ wo, wo = wr := ⟨_, rfl⟩
                                subst hwo
                                by_cases hlt : k < mg
                                · obtain ⟨cc, hcc⟩ : ∃ cc, cc = k % L := ⟨_, rfl⟩
                                  obtain ⟨q, m, c2, gg, egg, hmM, HM, HC⟩ : ∃ q m c2 gg, qg = some ⟨gg, 0, none⟩ ∧ m ≤ 9223372036854775807 ∧ Hid (MIn wz q m (List.replicate m (mk cc))) ∧ Hid (wz.cell? ⟨gg, k, none⟩ = some (.slice q m c2)) := by
                                    obtain ⟨e1, e2, e3, F, ls, G, h1, h2, -⟩ := HP10.out
                                    obtain ⟨u, hu⟩ : ∃ u, ls[k]? = some u := ⟨_, List.getElem?_eq_getElem (by omega)⟩
                                    have hvl := HVL.out
                                    obtain ⟨q, m, c, rfl, hm, hmx⟩ := lg_look h2 (by omega) hu (by omega)
                                    obtain ⟨gg, e, hc, -⟩ := list_at h2.row hu
                                    rw [hvl, ← hcc] at hm
                                    exact ⟨q, m, c, gg, e, by simp only [maxLen] at hmx; omega, hm, hc⟩
                                  subst egg
                                  have HL0 : Hid (0 < L) := by have := HP10.out.2.2.1; show 0 < L; omega
                                  have z1 : wo.cell? ⟨gg, k, none⟩ = some (.slice q m c2) := (Br.out.cell (p := ⟨gg, k, none⟩) (World.block_lt_of_cell? wz _ HC.out)).trans HC.out
                                  have i1 : (k : Int) < (mg : Int) := by omega
                                  have i0 : (0 : Int) ≤ (k : Int) := by omega
                                  have HCC : Hid (cc = k % L) := hcc
                                  clear hcc
                                  go_wp2_with fail
                                  clear z1
                                  go_loopw [167] (fun i wr => ∃ k2 : Nat, k2 ≤ m ∧ i = .int .i64 k2 ∧ Hid (Below wz.heap.size wz wr)) (fun i _ => m - (intOf i).toNat)
                                  case atStart => exact ⟨0, Nat.zero_le _, rfl, Br.out⟩
                                  case round =>
                                    clear Br
                                    obtain ⟨k2, hk2, rfl, Br⟩ := hrel
                                    obtain ⟨wv, hwv⟩ : ∃ wv, wv = wr := ⟨_, rfl⟩
                                    subst hwv
                                    by_cases hjt : k2 < m
                                    · obtain ⟨g8, o8, eq8, hr8⟩ := HM.out.cells (by omega)
                                      subst eq8
                                      have hx8 : (List.replicate m (mk cc))[k2]? = some (mk cc) := List.getElem?_eq_some_iff.2 ⟨by simpa using hjt, by simp⟩
                                      have HK : Hid (∀ W, Below wv.heap.size wv W → W.cell? ⟨gg, k, none⟩ = some (.slice (some ⟨g8, o8, none⟩) m c2) ∧ W.rangeAt g8 (o8 + k2 * 33) (icells ⟨1000 + (cc : Int), zs 32⟩)) := fun W hW => by
                                        have hb := below_then Br.out hW
                                        exact ⟨(hb.cell (p := ⟨gg, k, none⟩) (World.block_lt_of_cell? wz _ HC.out)).trans HC.out, (HM.out.later hb).at hx8⟩
                                      have QE : Hid (∀ w, (binOp .neq 57 (.agg (icells ⟨1000 + (cc : Int), zs 32⟩).toArray) (.agg (icells ⟨1000 + (cc : Int), zs 32⟩).toArray)).run Tryz.prog w = .ok (.bool false) w) := fun w => by rw [neqI w _ _ (zs_len 32) (zs_len 32), (imB_iff _ _).2 rfl]; rfl
                                      have hLz : ¬ L = 0 := by have := HL0.out; omega
                                      have hrem : Int.tmod (k : Int) (L : Int) = (cc : Int) := by
                                        rw [HCC.out]; exact (Int.ofNat_tmod k L).symm
                                      have hccl : cc ≤ 1000 := by have := Nat.mod_lt k HL0.out; have := HCC.out; omega
                                      have hwrc : IntKind.i64.wrap (cc : Int) = (cc : Int) := by rw [IntKind.wrap_i64]; omega
                                      have hwr := wrap1000 (k := cc) (by omega)
                                      have j1 : (k2 : Int) < (m : Int) := by omega
                                      have j0 : (0 : Int) ≤ (k2 : Int) := by omega
                                      clear hr8 hx8
                                      go_wp2_with fail
                                      refine wp_region_noPanic ?_
                                      refine wp_region_held_drew (S := fun w' => Below wv.heap.size wv w') (by kernel_rfl) (below_drawn 1) (fun hHeld => ?_)
                                      have DD : Hid (Below wv.heap.size wv wv.drew) := hHeld
                                      generalize wv.drew = wd at *
                                      refine wpAnyH_take (i := 0) (v := ?vak1) (by simp; rfl) (by kernel_rfl) (by kernel_rfl) (by kernel_rfl) (fun _ _ _ h => h) (Or.inl ⟨by rfl, ?yak1⟩) hHeld ?rak1
                                      case yak1 => intro w hSw; clear hSw; go_simp; with_reducible rfl
                                      simp only [Act.put, List.setIfInBounds_toArray, List.set_cons_zero, List.set_cons_succ]
                                      refine wpAnyH_take (i := 1) (v := ?vak2) (by simp; rfl) (by kernel_rfl) (by kernel_rfl) (by kernel_rfl) (fun _ _ _ h => h) (Or.inl ⟨by rfl, ?yak2⟩) hHeld ?rak2
                                      case yak2 => intro w hSw; clear hSw; go_simp; with_reducible rfl
                                      simp only [Act.put, List.setIfInBounds_toArray, List.set_cons_zero, List.set_cons_succ]
                                      refine wpAnyH_take (i := 2) (v := ?vak3) (by simp; rfl) (by kernel_rfl) (by kernel_rfl) (by kernel_rfl) (fun _ _ _ h => h) (Or.inl ⟨by rfl, ?yak3⟩) hHeld ?rak3
                                      case yak3 => intro w hSw; clear hSw; go_simp; with_reducible rfl
                                      simp only [Act.put, List.setIfInBounds_toArray, List.set_cons_zero, List.set_cons_succ]
                                      refine wpAnyH_take (i := 3) (v := ?vak4) (by simp; rfl) (by kernel_rfl) (by kernel_rfl) (by kernel_rfl) (fun _ _ _ h => h) (Or.inl ⟨by rfl, ?yak4⟩) hHeld ?rak4
                                      case yak4 => intro w hSw; have z := (HK.out _ hSw).1; clear hSw; go_simp; with_reducible rfl
                                      simp only [Act.put, List.setIfInBounds_toArray, List.set_cons_zero, List.set_cons_succ]
                                      refine wpAnyH_take (i := 4) (v := ?vak5) (by simp; rfl) (by kernel_rfl) (by kernel_rfl) (by kernel_rfl) (fun _ _ _ h => h) (Or.inl ⟨by rfl, ?yak5⟩) hHeld ?rak5
                                      case yak5 => intro w hSw; clear hSw; go_simp; with_reducible rfl
                                      simp only [Act.put, List.setIfInBounds_toArray, List.set_cons_zero, List.set_cons_succ]
                                      refine wpAnyH_take (i := 5) (v := ?vak6) (by simp; rfl) (by kernel_rfl) (by kernel_rfl) (by kernel_rfl) (fun _ _ _ h => h) (Or.inl ⟨by rfl, ?yak6⟩) hHeld ?rak6
                                      case yak6 => intro w hSw; clear hSw; go_simp; with_reducible rfl
                                      simp only [Act.put, List.setIfInBounds_toArray, List.set_cons_zero, List.set_cons_succ]
                                      refine wpAnyH_take (i := 6) (v := _) (by simp; rfl) (by kernel_rfl) (by kernel_rfl) (by kernel_rfl) (fun _ _ _ h => h) (yieldsIf_load_mid (by rfl) 57 (.tmp 175) rfl g8 (o8 + k2 * 33) rfl (icells ⟨1000 + (cc : Int), zs 32⟩) _ (fun _ h => (HK.out _ h).2) Tryz.underlying57 rfl (by rw [sizeI]; rfl)) hHeld ?_
                                      simp only [Act.put, List.setIfInBounds_toArray, List.set_cons_zero, List.set_cons_succ]
                                      refine wpAnyH_take (i := 7) (v := ?vak7) (by simp; rfl) (by kernel_rfl) (by kernel_rfl) (by kernel_rfl) (fun _ _ _ h => h) (Or.inl ⟨by rfl, ?yak7⟩) hHeld ?rak7
                                      case yak7 => intro w hSw; clear hSw; go_simp; with_reducible rfl
                                      simp only [Act.put, List.setIfInBounds_toArray, List.set_cons_zero, List.set_cons_succ]
                                      refine wpAnyH_take (i := 8) (v := ?vak8) (by simp; rfl) (by kernel_rfl) (by kernel_rfl) (by kernel_rfl) (fun _ _ _ h => h) (Or.inl ⟨by rfl, ?yak8⟩) hHeld ?rak8
                                      case yak8 => intro w hSw; clear hSw; go_simp; with_reducible rfl
                                      simp only [Act.put, List.setIfInBounds_toArray, List.set_cons_zero, List.set_cons_succ]
                                      refine wpAnyH_take (i := 9) (v := ?vak9) (by simp; rfl) (by kernel_rfl) (by kernel_rfl) (by kernel_rfl) (fun _ _ _ h => h) (Or.inl ⟨by rfl, ?yak9⟩) hHeld ?rak9
                                      case yak9 => intro w hSw; clear hSw; go_simp; with_reducible rfl
                                      simp only [Act.put, List.setIfInBounds_toArray, List.set_cons_zero, List.set_cons_succ]
                                      refine wpAnyH_take (i := 10) (v := ?vak10) (by simp; rfl) (by kernel_rfl) (by kernel_rfl) (by kernel_rfl) (fun _ _ _ h => h) (Or.inl ⟨by rfl, ?yak10⟩) hHeld ?rak10
                                      case yak10 => intro w hSw; clear hSw; go_simp; with_reducible rfl
                                      simp only [Act.put, List.setIfInBounds_toArray, List.set_cons_zero, List.set_cons_succ]
                                      refine wpAnyH_take (i := 11) (v := ?vak11) (by simp; rfl) (by kernel_rfl) (by kernel_rfl) (by kernel_rfl) (fun _ _ _ h => h) (Or.inl ⟨by rfl, ?yak11⟩) hHeld ?rak11
                                      case yak11 => intro w hSw; clear hSw; go_simp; with_reducible rfl
                                      simp only [Act.put, List.setIfInBounds_toArray, List.set_cons_zero, List.set_cons_succ]
                                      refine wpAnyH_take (i := 12) (v := _) (by simp; rfl) (by kernel_rfl) (by kernel_rfl) (by kernel_rfl) (fun _ _ _ h => h) (R.yields_build_is (vs := [(0, .int .i64 (1000 + (cc : Int)))]) (by rfl) 57 rfl (by rfl) (fun w => buildIb w (1000 + (cc : Int)))) hHeld ?_
                                      simp only [Act.put, List.setIfInBounds_toArray, List.set_cons_zero, List.set_cons_succ]
                                      refine wpAnyH_take (i := 13) (v := _) (by simp; rfl) (by kernel_rfl) (by kernel_rfl) (by kernel_rfl) (fun _ _ _ h => h) (yields_neq_is (by rfl) 57 rfl rfl rfl eqgI QE.out) hHeld ?_
                                      simp only [Act.put, List.setIfInBounds_toArray, List.set_cons_zero, List.set_cons_succ]
                                      clear hHeld
                                      refine wpAnyH_done (by kernel_rfl) (NoPanic.normal ?_) _
                                      have B3 : Hid (Below wz.heap.size wz wd) := below_then Br.out DD.out
                                      clear Br QE HK DD hLz hrem hwrc hwr
                                      go_wp2_with fail
                                      go_roundw
                                      case rel => exact ⟨k2 + 1, by omega, by go_num, B3.out⟩
                                      case measure => simp [intOf]; omega
                                    · have hjn : ¬ (k2 : Int) < (m : Int) := by omega
                                      go_wp2_with fail
                                      go_roundw
                                      case rel => exact ⟨k + 1, by omega, by go_num, Br.out⟩
                                      case measure => simp [intOf]; omega
                                · have hnl : ¬ (k : Int) < (mg : Int) := by omega
                                  have HP11 : Hid (mx = n + 16 ∧ my = n + 16 ∧ Below B0 w wo ∧ LAt 39 wo w.heap.size GA ∧ LAt 39 wo (w.heap.size + 1) GB ∧ ∃ G, Col 59 2 Ptx (fun _ _ => True) wo B0 G ∧ G (.slice qx mx cx) 7 ∧ G (.slice qy my cy) 8 ∧ G (.slice pa n ca) 7 ∧ G (.slice pb n cb) 8) := by
                                    obtain ⟨e1, e2, e3, F, ls, G, h1, h2, h3, h4, h5, h6⟩ := HP10.out
                                    have h9 := h2.later Br.out
                                    exact ⟨e1, e2, h9.ap.low, h9.ap.ba, h9.ap.bb, G, h9.ap.tx, h3, h4, h5, h6⟩
                                  clear HP10 Br
                                  go_wp2_with fail
                                  go_loopw [188] (fun i wr => ∃ k : Nat, k ≤ mx ∧ i = .int .i64 k ∧ wr = wo) (fun i _ => mx - (intOf i).toNat)
                                  case atStart => exact ⟨0, Nat.zero_le _, rfl, rfl⟩
                                  case round =>
                                    obtain ⟨k, hk, rfl, ewr⟩ := hrel
                                    subst ewr
                                    by_cases hlt : k < mx
                                    · obtain ⟨g1, g2, eg1, eg2, z1, z2⟩ : ∃ g1 g2, qx = some ⟨g1, 0, none⟩ ∧ qy = some ⟨g2, 0, none⟩ ∧ wr.cell? ⟨g1, k * 2, none⟩ = some (.int .u64 7) ∧ wr.cell? ⟨g2, k * 2, none⟩ = some (.int .u64 8) := by
                                        obtain ⟨e1, e2, -, -, -, G, h1, h2, h3, h4, h5⟩ := HP11.out
                                        obtain ⟨g1, a1, a2⟩ := h1.posx h2 k (by omega)
                                        obtain ⟨g2, b1, b2⟩ := h1.posx h3 k (by omega)
                                        exact ⟨g1, g2, a1, b1, a2, b2⟩
                                      subst eg1; subst eg2
                                      have i1 : (k : Int) < (mx : Int) := by omega
                                      have i2 : (k : Int) < (my : Int) := by have := HP11.out.1; have := HP11.out.2.1; omega
                                      have i0 : (0 : Int) ≤ (k : Int) := by omega
                                      go_wp2_with fail
                                      go_roundw
                                      case rel => exact ⟨k + 1, by omega, by go_num, trivial⟩
                                      case measure => simp [intOf]; omega
                                    · have hnl : ¬ (k : Int) < (mx : Int) := by omega
                                      have a9 : wr.cell? ⟨w.heap.size, 3, none⟩ = some (.slice pa n ca) := by have h := LAt.cell HP11.out.2.2.2.1 3; rw [HGAB.out.1] at h; exact h
                                      go_wp2_with fail
                                      clear a9
                                      go_loopw [209] (fun i wz => ∃ k : Nat, k ≤ n ∧ i = .int .i64 k ∧ wz = wr) (fun i _ => n - (intOf i).toNat)
                                      case atStart => exact ⟨0, Nat.zero_le _, rfl, rfl⟩
                                      case round =>
                                        obtain ⟨k, hk, rfl, ewr⟩ := hrel
                                        subst ewr
                                        by_cases hlt : k < n
                                        · obtain ⟨g1, g2, eg1, eg2, z1, z2⟩ : ∃ g1 g2, pa = some ⟨g1, 0, none⟩ ∧ pb = some ⟨g2, 0, none⟩ ∧ wr.cell? ⟨g1, k * 2, none⟩ = some (.int .u64 7) ∧ wr.cell? ⟨g2, k * 2, none⟩ = some (.int .u64 8) := by
                                            obtain ⟨e1, e2, -, -, -, G, h1, h2, h3, h4, h5⟩ := HP11.out
                                            obtain ⟨g1, a1, a2⟩ := h1.posx h4 k (by omega)
                                            obtain ⟨g2, b1, b2⟩ := h1.posx h5 k (by omega)
                                            exact ⟨g1, g2, a1, b1, a2, b2⟩
                                          have z3 : wr.cell? ⟨w.heap.size, 3, none⟩ = some (.slice pa n ca) := by have h := LAt.cell HP11.out.2.2.2.1 3; rw [HGAB.out.1] at h; exact h
                                          have z4 : wr.cell? ⟨w.heap.size + 1, 3, none⟩ = some (.slice pb n cb) := by have h := LAt.cell HP11.out.2.2.2.2.1 3; rw [HGAB.out.2] at h; exact h
                                          subst eg1; subst eg2
                                          have i1 : (k : Int) < (n : Int) := by omega
                                          have i0 : (0 : Int) ≤ (k : Int) := by omega
                                          go_wp2_with fail
                                          go_roundw
                                          case rel => exact ⟨k + 1, by omega, by go_num, trivial⟩
                                          case measure => simp [intOf]; omega
                                        · have hnl : ¬ (k : Int) < (n : Int) := by omega
                                          have FF : Hid (Below B0 w wr) := HP11.out.2.2.1
                                          go_wp2_with fail
                                          go_ret
                                          exact ⟨rfl, FF.out⟩
end Go.Proofs.YtefnkjajjidfaaaGreatDoor
