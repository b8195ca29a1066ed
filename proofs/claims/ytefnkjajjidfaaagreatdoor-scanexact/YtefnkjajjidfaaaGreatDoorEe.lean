/-
  Layer 10, the functions: Read.
-/
import Derived.Test.YtefnkjajjidfaaaGreatDoorEc
import Derived.Test.YtefnkjajjidfaaaGreatDoorEd
import Derived.Test.YtefnkjajjidfaaaGreatDoorEi
import Derived.RangeFuncNested
import Derived.RangeFuncBound
import Derived.RangeFuncCalls
import Derived.RangeFuncLeaves
import Derived.Shelf.Abstract
import Derived.Shelf.RegionOpen
import Derived.WalkKit
import Derived.OwnWalkIn
import Derived.TacticsInMore
import Derived.LoopNIn
import Derived.LoopIn
import Derived.WalkMore
namespace Go.Proofs.YtefnkjajjidfaaaGreatDoor
open Go.RowKit Go.Shelf


attribute [local go_sem] Oper.semAt_some

theorem keeps_of_below {V V' : World} (h : Below V.heap.size V V') (B : Nat) : KeepsFrom B V V' := ⟨h.size, fun k _ _ hk _ => (h.block k (Array.getElem?_eq_some_iff.1 hk).1).trans hk⟩
theorem results_lat {fn : Func} {p u : Tmp} {ty : TypeId} (h : fn.results = #[.cell p ty, .tmp u]) (tmps : Array Value) (w : World) (g : Nat) (t : TypeId) (cs : List Value) (d : TypeDesc)
    (hp : tmps.getD p undef = .pointer (some ⟨g, 0, none⟩)) (hg : LAt t w g cs) (hu : Tryz.prog.underlying ty = some d) (hd : d.isRow = true) (hi : (Tryz.prog.info? ty).map (·.size) = some cs.length) :
    (results fn tmps).run Tryz.prog w = .ok (.tuple #[.agg cs.toArray, tmps.getD u undef]) w := by
  rw [results_cell_tmp h, hp]
  simp only [asAddr, Sem.run_pure, Result.andThen_ok, run_loadVar_mid w g 0 ty _ d (LAt.range hg) hu hd hi]
/-- the rounds over positions that go on -/
def scGo (st : Int → R.Rec × Bool) (mr : Int) : List Int → Sc → Option Sc
  | [], s => some s
  | p :: ps, s => if (st p).2 = true then (scStep mr s p (st p).1).bind (scGo st mr ps) else none
theorem scGo_snoc (st : Int → R.Rec × Bool) (mr : Int) : ∀ (ps : List Int) (p : Int) (s : Sc), scGo st mr (ps ++ [p]) s = (scGo st mr ps s).bind fun s' => if (st p).2 = true then scStep mr s' p (st p).1 else none
  | [], p, s => by
    show (if (st p).2 = true then (scStep mr s p (st p).1).bind some else none) = (if (st p).2 = true then scStep mr s p (st p).1 else none)
    by_cases h : (st p).2 = true
    · rw [if_pos h, if_pos h]; cases scStep mr s p (st p).1 <;> rfl
    · rw [if_neg h, if_neg h]
  | q :: ps, p, s => by
    show (if (st q).2 = true then (scStep mr s q (st q).1).bind (scGo st mr (ps ++ [p])) else none) = (if (st q).2 = true then (scStep mr s q (st q).1).bind (scGo st mr ps) else none).bind _
    by_cases h : (st q).2 = true
    · rw [if_pos h, if_pos h]
      cases scStep mr s q (st q).1 with
      | none => rfl
      | some s' => exact scGo_snoc st mr ps p s'
    · rw [if_neg h, if_neg h]; rfl
theorem scGo_run {st : Int → R.Rec × Bool} {mr : Int} {t : Int} {s0 : Sc} : ∀ (j : Nat) (s : Sc) (k : Nat), j ≤ k → scGo st mr (G.upto t j) s0 = some s → scRun st mr k t s0 = scRun st mr (k - j) (t + j) s
  | 0, s, k, _, h => by
    obtain rfl : s0 = s := Option.some.inj h
    rw [Nat.sub_zero, show t + ((0 : Nat) : Int) = t by omega]
  | j + 1, s, k, hk, h => by
    rw [G.upto_succ, scGo_snoc] at h
    cases e : scGo st mr (G.upto t j) s0 with
    | none => rw [e] at h; cases h
    | some s1 =>
      rw [e] at h
      have h' : (if (st (t + j)).2 = true then scStep mr s1 (t + j) (st (t + j)).1 else none) = some s := h
      by_cases c : (st (t + j)).2 = true
      · rw [if_pos c] at h'
        rw [scGo_run j s1 k (by omega) e, show k - j = k - (j + 1) + 1 by omega, scRun_go c h', show t + (j : Int) + 1 = t + ((j + 1 : Nat) : Int) by omega]
      · rw [if_neg c] at h'; cases h'
structure GoOk (mr : Int) (n : Nat) (s : Sc) : Prop where
  tl : s.txs.length ≤ n
  cl : (s.come.length : Int) ≤ mr
  tw : TxsWf s.txs
  cw : ImsWf s.come
theorem GoOk.step {mr : Int} {n : Nat} {s s' : Sc} (h : GoOk mr n s) (hm : 0 ≤ mr) {p : Int} (hp : u64 p) {r : R.Rec} (hw : r.Wf) (e : scStep mr s p r = some s') : GoOk mr (n + 1) s' := by
  by_cases c1 : r.kind = 1 ∧ Folls s.come r.block mr
  · rw [scStep_img c1] at e
    cases e
    refine ⟨Nat.le_succ_of_le h.tl, ?_, h.tw, h.cw.snoc ⟨⟨hw.b0, hw.b1⟩, hw.len, hw.byte⟩⟩
    have := c1.2.1
    simp only [List.length_append, List.length_singleton]; omega
  · by_cases c2 : r.kind = 2 ∧ r.images = s.come.length
    · rw [scStep_com c2] at e
      cases e
      refine ⟨?_, hm, h.tw.snoc ⟨hp, h.cw⟩, ImsWf.nil⟩
      have := h.tl
      simp only [List.length_append, List.length_singleton]; omega
    · rw [scStep_no c1 c2] at e; cases e
/-- one round of Read's has gone on; none has -/
structure GoAt (st : Int → R.Rec × Bool) (mr t : Int) (pre : List G.U64) (s : Sc) : Prop where
  go : scGo st mr (G.nums pre) ⟨[], t, []⟩ = some s
  ok : GoOk mr pre.length s
theorem GoAt.start (st : Int → R.Rec × Bool) {mr : Int} (hm : 0 ≤ mr) (t : Int) : GoAt st mr t [] ⟨[], t, []⟩ := ⟨rfl, Nat.le_refl _, hm, TxsWf.nil, ImsWf.nil⟩
theorem GoAt.step {st : Int → R.Rec × Bool} {mr t : Int} {pre : List G.U64} {s s' : Sc} (h : GoAt st mr t pre s) (hm : 0 ≤ mr) {u : G.U64} (hw : (st u.1).1.Wf) (h1 : (st u.1).2 = true) (h2 : scStep mr s u.1 (st u.1).1 = some s') : GoAt st mr t (pre ++ [u]) s' := by
  refine ⟨?_, ?_⟩
  · rw [show G.nums (pre ++ [u]) = G.nums pre ++ [u.1] by simp, scGo_snoc, h.go]
    show (if _ then _ else _) = _
    rw [if_pos h1, h2]
  · rw [List.length_append, List.length_singleton]
    exact h.ok.step hm ⟨u.2.1, by have := u.2.2; omega⟩ hw h2
theorem GoAt.done {st : Int → R.Rec × Bool} {mr t : Int} {pre : List G.U64} {s : Sc} (h : GoAt st mr t pre s) {k : Nat} (hk : k ≤ 64) (hp : G.nums pre = G.spanI t (t + k)) : scRun st mr k t ⟨[], t, []⟩ = s := by
  have hN : G.spanN t (t + k) = k := by unfold G.spanN; omega
  have := h.go
  rw [hp, ← G.upto_span, hN] at this
  rw [scGo_run k s k (Nat.le_refl _) this, Nat.sub_self]; rfl
theorem GoAt.stop {st : Int → R.Rec × Bool} {mr t : Int} {pre : List G.U64} {s : Sc} (h : GoAt st mr t pre s) {k : Nat} (hk : k ≤ 64) {u : G.U64} (hp : G.nums (pre ++ [u]) <+: G.spanI t (t + k)) (hs : (st u.1).2 = false ∨ scStep mr s u.1 (st u.1).1 = none) : scRun st mr k t ⟨[], t, []⟩ = s := by
  have hN : G.spanN t (t + k) = k := by unfold G.spanN; omega
  have hl : pre.length < k := by
    have := hp.length_le
    rw [G.spanI_length, hN] at this
    simp at this
    omega
  have hu : u.1 = t + pre.length := by
    have h1 : (G.nums (pre ++ [u]))[pre.length]? = some u.1 := by simp
    obtain ⟨r, hr⟩ := hp
    have h2 := G.spanI_get t (t + k) pre.length (by omega)
    rw [← hr, List.getElem?_append_left (by simp), h1] at h2
    exact Option.some.inj h2
  have hpre : G.nums pre = G.upto t pre.length := by
    have hp' : G.nums pre <+: G.spanI t (t + k) := List.IsPrefix.trans ⟨[u.1], by simp⟩ hp
    have h3 := List.prefix_iff_eq_take.1 hp'
    have h4 := List.prefix_iff_eq_take.1 (G.upto_prefix t (t + k) pre.length (by omega))
    rw [h3, h4, G.upto_length]
    simp
  have := h.go
  rw [hpre] at this
  rw [scGo_run pre.length s k (by omega) this, ← hu]
  rcases hs with hs | hs
  · exact scRun_off hs
  · exact scRun_stop hs
set_option maxHeartbeats 1000000 in
set_option maxRecDepth 100000 in
theorem read_nil10 (c : Sup) (w : World) : Calls Tryz.prog 7 #[.pointer none, .agg (ccells c).toArray] w fun e w' => e = .returned (.tuple #[.agg (gcells 0 0 0 (.slice none 0 0)).toArray, .int .i64 1]) ∧ Below w.heap.size w w' := by
  obtain ⟨wa, hwa⟩ : ∃ y, y = w.alloc (.cells #[.pointer none] 27) := ⟨_, rfl⟩
  obtain ⟨wb, hwb⟩ : ∃ y, y = wa.alloc (.cells (ccells c).toArray 23) := ⟨_, rfl⟩
  obtain ⟨wc, hwc⟩ : ∃ y, y = wb.alloc (.cells (gcells 0 0 0 (.slice none 0 0)).toArray 39) := ⟨_, rfl⟩
  have ewa := hwa.symm
  have ewb := hwb.symm
  have sa : wa.heap.size = w.heap.size + 1 := by rw [hwa]; simp
  have sb : wb.heap.size = w.heap.size + 1 + 1 := by rw [hwb, ← sa]; simp
  have A1 : Hid (_) := allocLg wb
  rw [← hwc, sb] at A1
  have Ba : Below w.heap.size w wa := by rw [hwa]; exact below_alloc w _
  have Bb : Below w.heap.size w wb := by rw [hwb]; exact below_then Ba (below_alloc wa _)
  have B0 : Hid (Below w.heap.size w wc) := by rw [hwc]; exact below_then Bb (below_alloc wb _)
  have bbc : Below wb.heap.size wb wc := by rw [hwc]; exact below_alloc wb _
  have bab : Below wa.heap.size wa wb := by rw [hwb]; exact below_alloc wa _
  have K0 : Hid (Boxed wc w.heap.size 27 (.pointer none)) := by
    refine (bbc.block _ (by omega)).trans ((bab.block _ (by omega)).trans ?_)
    rw [hwa]; exact heap_alloc_new w _
  have C0 : Hid (CAt wc (w.heap.size + 1) c) := by
    refine LAt.later ?_ bbc
    rw [hwb, ← sa]; exact LAt.new 23 wa _
  have V0 : Hid (LAt 39 wc (w.heap.size + 1 + 1) (gcells 0 0 0 (.slice none 0 0))) := by rw [hwc, ← sb]; exact LAt.new 39 wb _
  have L0 : Hid (_) := CAt.load23 C0.out
  have z0 := K0.out.cell
  clear hwa hwb hwc Ba Bb bab bbc
  have hmo : Tryz.prog.follows Departure.mixedOrders = true := by kernel_rfl
  refine (callsIn_wide (n := 9)).1 ?_
  refine callsIn_of_wp Tryz.func7 rfl trivial ?_ rfl
  simp only [Tryz.ntmps7, List.size_toArray, List.length_cons, List.length_nil, Nat.reduceAdd, Nat.reduceSub, Array.replicate_succ, Array.replicate_zero, List.push_toArray, List.append_toArray, List.nil_append, List.cons_append]
  gi_wp2_with ((with_reducible refine in_ops ?_); (first | (refine in_alloc (by rfl) 39 rfl A1.out ?_) | (refine in_load (by rfl) 23 rfl rfl L0.out ?_)); simp only [Act.put, List.setIfInBounds_toArray, List.set_cons_zero, List.set_cons_succ])
  refine wpIn_scope ?_
  gi_wp2_with ((with_reducible refine in_ops ?_); (first | (refine in_alloc (by rfl) 39 rfl A1.out ?_) | (refine in_load (by rfl) 23 rfl rfl L0.out ?_)); simp only [Act.put, List.setIfInBounds_toArray, List.set_cons_zero, List.set_cons_succ])
  clear ewa ewb A1
  refine ⟨trivial, (callsIn_wide.2 (superOf_nil c wc)).mono ?_⟩
  rintro e w1 ⟨rfl, b1⟩
  obtain ⟨r, hr⟩ : ∃ r, r = sup0 := ⟨_, rfl⟩
  rw [← hr]
  clear hr
  have B1 : Hid (Below w.heap.size w w1) := below_then B0.out b1
  have V1 : Hid (LAt 39 w1 (w.heap.size + 1 + 1) (gcells 0 0 0 (.slice none 0 0))) := LAt.later V0.out b1
  obtain ⟨w2, hw2⟩ : ∃ y, y = w1.alloc (.cells (scells r).toArray 81) := ⟨_, rfl⟩
  have A2 : Hid (_) := alloc29 w1
  have T2 : Hid (_) := store_new29 w1 r
  rw [← hw2] at T2
  have b2 : Below w1.heap.size w1 w2 := by rw [hw2]; exact below_alloc w1 _
  have B2 : Hid (Below w.heap.size w w2) := below_then B1.out b2
  have V2 : Hid (LAt 39 w2 (w.heap.size + 1 + 1) (gcells 0 0 0 (.slice none 0 0))) := LAt.later V1.out b2
  have U3 : Hid (_) := buildL0 w2
  have T3 : Hid (_) := LAt.store (ds := gcells 0 0 0 (.slice none 0 0)) V2.out sizeLg rfl (all_oneCell_toArray (gcells_ones rfl 0 0 0))
  have F3 : Hid (LAt 39 (w2.setRow (w.heap.size + 1 + 1) (gcells 0 0 0 (.slice none 0 0)).toArray) (w.heap.size + 1 + 1) (gcells 0 0 0 (.slice none 0 0))) := LAt.stored V2.out _
  have G3 : Hid (Below w.heap.size w (w2.setRow (w.heap.size + 1 + 1) (gcells 0 0 0 (.slice none 0 0)).toArray)) := below_setRow B2.out (by omega) _
  clear b1 hw2 b2 B0 C0 V0 K0 L0 B1 V1 z0
  gi_wp2_with ((with_reducible refine in_ops ?_); (first | (refine in_alloc (by rfl) 81 rfl A2.out ?_) | (refine in_store (by rfl) 81 rfl rfl rfl T2.out ?_) | (refine in_build (vs := []) (by rfl) 39 rfl (by rfl) U3.out ?_) | (refine in_store (by rfl) 39 rfl rfl rfl T3.out ?_)); simp only [Act.put, List.setIfInBounds_toArray, List.set_cons_zero, List.set_cons_succ])
  rw [Exit.noGoto_ret]
  exact bodyPost_ret (results_lat Tryz.results7 _ _ (w.heap.size + 1 + 1) 39 _ _ (by rfl) F3.out Tryz.underlying39 rfl sizeLg) rfl ⟨rfl, G3.out⟩
set_option maxHeartbeats 1000000 in
set_option maxRecDepth 100000 in
theorem read_err10 {w : World} {S : Nat → Prop} {p n : Nat} {d : List Int} {ws : List Wr} (h : Dsk w S p n d ws) (ht : Tab w) (c : Sup) (hz : ¬ (supOf c n (newest ws d)).2 = 0) : Calls Tryz.prog 7 #[.pointer (some ⟨p, 0, none⟩), .agg (ccells c).toArray] w fun e w' => e = .returned (.tuple #[.agg (gcells 0 0 0 (.slice none 0 0)).toArray, .int .i64 (supOf c n (newest ws d)).2]) ∧ Below w.heap.size w w' := by
  obtain ⟨wa, hwa⟩ : ∃ y, y = w.alloc (.cells #[.pointer (some ⟨p, 0, none⟩)] 27) := ⟨_, rfl⟩
  obtain ⟨wb, hwb⟩ : ∃ y, y = wa.alloc (.cells (ccells c).toArray 23) := ⟨_, rfl⟩
  obtain ⟨wc, hwc⟩ : ∃ y, y = wb.alloc (.cells (gcells 0 0 0 (.slice none 0 0)).toArray 39) := ⟨_, rfl⟩
  have ewa := hwa.symm
  have ewb := hwb.symm
  have sa : wa.heap.size = w.heap.size + 1 := by rw [hwa]; simp
  have sb : wb.heap.size = w.heap.size + 1 + 1 := by rw [hwb, ← sa]; simp
  have A1 : Hid (_) := allocLg wb
  rw [← hwc, sb] at A1
  have Ba : Below w.heap.size w wa := by rw [hwa]; exact below_alloc w _
  have Bb : Below w.heap.size w wb := by rw [hwb]; exact below_then Ba (below_alloc wa _)
  have B0 : Hid (Below w.heap.size w wc) := by rw [hwc]; exact below_then Bb (below_alloc wb _)
  have bbc : Below wb.heap.size wb wc := by rw [hwc]; exact below_alloc wb _
  have bab : Below wa.heap.size wa wb := by rw [hwb]; exact below_alloc wa _
  have K0 : Hid (Boxed wc w.heap.size 27 (.pointer (some ⟨p, 0, none⟩))) := by
    refine (bbc.block _ (by omega)).trans ((bab.block _ (by omega)).trans ?_)
    rw [hwa]; exact heap_alloc_new w _
  have C0 : Hid (CAt wc (w.heap.size + 1) c) := by
    refine LAt.later ?_ bbc
    rw [hwb, ← sa]; exact LAt.new 23 wa _
  have V0 : Hid (LAt 39 wc (w.heap.size + 1 + 1) (gcells 0 0 0 (.slice none 0 0))) := by rw [hwc, ← sb]; exact LAt.new 39 wb _
  have L0 : Hid (_) := CAt.load23 C0.out
  have z0 := K0.out.cell
  clear hwa hwb hwc Ba Bb bab bbc
  have hmo : Tryz.prog.follows Departure.mixedOrders = true := by kernel_rfl
  refine (callsIn_wide (n := 9)).1 ?_
  refine callsIn_of_wp Tryz.func7 rfl trivial ?_ rfl
  simp only [Tryz.ntmps7, List.size_toArray, List.length_cons, List.length_nil, Nat.reduceAdd, Nat.reduceSub, Array.replicate_succ, Array.replicate_zero, List.push_toArray, List.append_toArray, List.nil_append, List.cons_append]
  gi_wp2_with ((with_reducible refine in_ops ?_); (first | (refine in_alloc (by rfl) 39 rfl A1.out ?_) | (refine in_load (by rfl) 23 rfl rfl L0.out ?_)); simp only [Act.put, List.setIfInBounds_toArray, List.set_cons_zero, List.set_cons_succ])
  refine wpIn_scope ?_
  gi_wp2_with ((with_reducible refine in_ops ?_); (first | (refine in_alloc (by rfl) 39 rfl A1.out ?_) | (refine in_load (by rfl) 23 rfl rfl L0.out ?_)); simp only [Act.put, List.setIfInBounds_toArray, List.set_cons_zero, List.set_cons_succ])
  clear ewa ewb A1
  refine ⟨trivial, (callsIn_wide.2 (superOf_any (h.later B0.out) (ht.later B0.out) c)).mono ?_⟩
  rintro e w1 ⟨rfl, b1⟩
  obtain ⟨r, hr⟩ : ∃ r, r = (supOf c n (newest ws d)).1 := ⟨_, rfl⟩
  obtain ⟨k, hk⟩ : ∃ k, k = (supOf c n (newest ws d)).2 := ⟨_, rfl⟩
  rw [← hr, ← hk]
  rw [← hk] at hz
  have HK : Hid (k = (supOf c n (newest ws d)).2) := hk
  have hq : (k != 0) = true := by simp [hz]
  clear hr hk h ht
  have B1 : Hid (Below w.heap.size w w1) := below_then B0.out b1
  have V1 : Hid (LAt 39 w1 (w.heap.size + 1 + 1) (gcells 0 0 0 (.slice none 0 0))) := LAt.later V0.out b1
  obtain ⟨w2, hw2⟩ : ∃ y, y = w1.alloc (.cells (scells r).toArray 81) := ⟨_, rfl⟩
  have A2 : Hid (_) := alloc29 w1
  have T2 : Hid (_) := store_new29 w1 r
  rw [← hw2] at T2
  have b2 : Below w1.heap.size w1 w2 := by rw [hw2]; exact below_alloc w1 _
  have B2 : Hid (Below w.heap.size w w2) := below_then B1.out b2
  have V2 : Hid (LAt 39 w2 (w.heap.size + 1 + 1) (gcells 0 0 0 (.slice none 0 0))) := LAt.later V1.out b2
  have U3 : Hid (_) := buildL0 w2
  have T3 : Hid (_) := LAt.store (ds := gcells 0 0 0 (.slice none 0 0)) V2.out sizeLg rfl (all_oneCell_toArray (gcells_ones rfl 0 0 0))
  have F3 : Hid (LAt 39 (w2.setRow (w.heap.size + 1 + 1) (gcells 0 0 0 (.slice none 0 0)).toArray) (w.heap.size + 1 + 1) (gcells 0 0 0 (.slice none 0 0))) := LAt.stored V2.out _
  have G3 : Hid (Below w.heap.size w (w2.setRow (w.heap.size + 1 + 1) (gcells 0 0 0 (.slice none 0 0)).toArray)) := below_setRow B2.out (by omega) _
  clear b1 hw2 b2 B0 C0 V0 K0 L0 B1 V1 z0
  gi_wp2_with ((with_reducible refine in_ops ?_); (first | (refine in_alloc (by rfl) 81 rfl A2.out ?_) | (refine in_store (by rfl) 81 rfl rfl rfl T2.out ?_) | (refine in_build (vs := []) (by rfl) 39 rfl (by rfl) U3.out ?_) | (refine in_store (by rfl) 39 rfl rfl rfl T3.out ?_)); simp only [Act.put, List.setIfInBounds_toArray, List.set_cons_zero, List.set_cons_succ])
  rw [Exit.noGoto_ret]
  exact bodyPost_ret (results_lat Tryz.results7 _ _ (w.heap.size + 1 + 1) 39 _ _ (by rfl) F3.out Tryz.underlying39 rfl sizeLg) rfl ⟨by rw [← HK.out]; rfl, G3.out⟩
end Go.Proofs.YtefnkjajjidfaaaGreatDoor
