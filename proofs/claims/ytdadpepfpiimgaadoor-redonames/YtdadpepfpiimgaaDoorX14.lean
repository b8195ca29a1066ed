import Derived.Test.YtdadpepfpiimgaaDoorX13
set_option maxHeartbeats 20000000
set_option maxRecDepth 100000
namespace Go.Proofs.YtdadpepfpiimgaaDoor
open Go.RowKit Go.Shelf
attribute [local go_sem] Oper.semAt_some
theorem own_one {w : World} {B : Nat} {e : TypeId} {sz n : Nat} {v : Value} {xs : List Value} (h : w.ownsRow B e sz v n xs) : v.oneCell' = true := by
  rcases h.2 with ⟨rfl, _⟩ | ⟨g, cap, cur, rfl, _⟩ <;> rfl
theorem lat_not_row {w : World} {k B : Nat} {t e : TypeId} {sz n : Nat} {v : Value} {xs cs : List Value} (h : LAt t w k cs) (hte : t ≠ e) (hr : w.ownsRow B e sz v n xs) : v.ownBlock ≠ some k := fun e' => by
  rcases hr.2 with ⟨rfl, _⟩ | ⟨g, cap, cur, rfl, _, hg, _⟩
  · cases e'
  · simp only [Value.ownBlock, Option.some.injEq] at e'
    subst e'
    rw [show w.heap[g]? = _ from h] at hg
    cases hg
    exact hte rfl
theorem grownBy_setRow (w : World) (k : Nat) (cs : Array Value) : w.grownBy (w.setRow k cs) (some k) := ⟨rfl, rfl, rfl, by rw [size_setRow]; exact Nat.le_refl _, fun j _ hj => setRow_other w k j cs (fun e => hj (by rw [e]))⟩
theorem RdM.fin {w V : World} {Bd Bc Br Bl Bo Bt Be Bx : Nat} {dp : Option Addr} {c : Sup} {t l e : Int} {s : Sc} {v cv : Value} {vs : List Value} (h : RdM w V Bd Bc Br Bl Bo Bt Be dp c t l e s v vs cv Bx) {D : Nat} (hD : Br < D) (hD2 : w.heap.size ≤ D) (hK : V.heap[D]? = some (.deferred (some []))) (hr0 : w.heap.size ≤ Br) : (V.setRow Br (gcells t l s.fin v).toArray).heap[D]? = some (.deferred (some [])) ∧ LAt 89 ((V.setRow Br (gcells t l s.fin v).toArray).putObj D (.deferred none)) Br (gcells t l s.fin v) ∧ XOwn 113 ((V.setRow Br (gcells t l s.fin v).toArray).putObj D (.deferred none)) w.heap.size v s.txs vs ∧ Rise vs ((V.setRow Br (gcells t l s.fin v).toArray).putObj D (.deferred none)).heap.size ∧ Below w.heap.size w ((V.setRow Br (gcells t l s.fin v).toArray).putObj D (.deferred none)) := by
  have h1 : (V.setRow Br (gcells t l s.fin v).toArray).heap[D]? = some (.deferred (some [])) := (setRow_other V Br D _ (by omega)).trans hK
  have x1 : XOwn 113 (V.setRow Br (gcells t l s.fin v).toArray) w.heap.size v s.txs vs := h.tx.kept (grownBy_setRow V Br _) (.inr (lat_not_row h.rs (by decide) h.tx.row)) fun u hu => by
    obtain ⟨k, hk, rfl⟩ := List.getElem_of_mem hu
    have hk' : k < s.txs.length := by rw [← h.tx.len]; exact hk
    exact .inr (lat_not_row h.rs (by decide) (h.tx.each k s.txs[k] vs[k] (List.getElem?_eq_getElem hk') (List.getElem?_eq_getElem hk)))
  refine ⟨h1, ?_, ?_, ?_, ?_⟩
  · exact (World.putObj_heap_other (by omega)).trans (LAt.stored h.rs _)
  · refine x1.cells fun k o hk hc => ?_
    refine (World.putObj_heap_other ?_).trans hk
    rintro rfl
    rw [h1] at hk; cases hk; cases hc
  · refine h.up.mono ?_
    have := h.x1
    simp; omega
  · exact (below_setRow h.low hr0 _).trans ⟨rfl, rfl, rfl, by simp, fun k hk => World.putObj_heap_other (by omega)⟩
set_option maxHeartbeats 8000000 in
set_option maxRecDepth 100000 in
theorem read_ok10 {w : World} {S : Nat → Prop} {p n : Nat} {d : List Int} {ws : List Wr} (h : Dsk w S p n d ws) (ht : Tab w) (c : Sup) (hz : (supOf c n (newest ws d)).2 = 0) :
    Calls Tryd.prog 39 #[.pointer (some ⟨p, 0, none⟩), .agg (ccells c).toArray] w fun e w' => ∃ v vs, e = .returned (.tuple #[.agg (gcells (supOf c n (newest ws d)).1.tail (supOf c n (newest ws d)).1.life (scanS c (newest ws d) (supOf c n (newest ws d)).1).fin v).toArray, .int .i64 0]) ∧ XOwn 113 w' w.heap.size v (scanS c (newest ws d) (supOf c n (newest ws d)).1).txs vs ∧ Rise vs w'.heap.size ∧ Below w.heap.size w w' := by
  obtain ⟨wa, hwa⟩ : ∃ y, y = w.alloc (.cells #[.pointer (some ⟨p, 0, none⟩)] 23) := ⟨_, rfl⟩
  obtain ⟨wb, hwb⟩ : ∃ y, y = wa.alloc (.cells (ccells c).toArray 28) := ⟨_, rfl⟩
  obtain ⟨wc, hwc⟩ : ∃ y, y = wb.alloc (.cells (gcells 0 0 0 (.slice none 0 0)).toArray 89) := ⟨_, rfl⟩
  have ewa := hwa.symm
  have ewb := hwb.symm
  have sa : wa.heap.size = w.heap.size + 1 := by rw [hwa]; simp
  have sb : wb.heap.size = w.heap.size + 1 + 1 := by rw [hwb, ← sa]; simp
  have A1 : Hid (_) := allocLg wb
  rw [← hwc, sb] at A1
  have Ba : Below w.heap.size w wa := by rw [hwa]; exact below_alloc w _
  have Bb : Below w.heap.size w wb := by rw [hwb]; exact below_then Ba (below_alloc wa _)
  have B0 : Hid (Below w.heap.size w wc) := by rw [hwc]; exact below_then Bb (below_alloc wb _)
  have bbc : Below wb.heap.size wb wc := by rw [hwc]; exact below_alloc wb _
  have bab : Below wa.heap.size wa wb := by rw [hwb]; exact below_alloc wa _
  have K0 : Hid (Boxed wc w.heap.size 23 (.pointer (some ⟨p, 0, none⟩))) := by
    refine (bbc.block _ (by omega)).trans ((bab.block _ (by omega)).trans ?_)
    rw [hwa]; exact heap_alloc_new w _
  have C0 : Hid (CAt wc (w.heap.size + 1) c) := by
    refine LAt.later ?_ bbc
    rw [hwb, ← sa]; exact LAt.new 28 wa _
  have V0 : Hid (LAt 89 wc (w.heap.size + 1 + 1) (gcells 0 0 0 (.slice none 0 0))) := by rw [hwc, ← sb]; exact LAt.new 89 wb _
  have L0 : Hid (_) := CAt.load23 C0.out
  have z0 := K0.out.cell
  clear hwa hwb hwc Ba Bb bab bbc
  have hmo : Tryd.prog.follows Departure.mixedOrders = true := by kernel_rfl
  have HD : Hid (Dsk w S p n d ws) := h
  have HT : Hid (Tab w) := ht
  obtain ⟨m1, m2, m3, m4, m5⟩ := supOf_zero hz
  have HBy : Hid (∀ i, Bytes (newest ws d i)) := by
    obtain ⟨q, cap, v, hp⟩ := h
    exact fun i => newk_bytes hp.db hp.fit _
  have hT := ((decS_good _ m3).1).2.1
  have hw := decS_wf _ (HBy.out 0)
  obtain ⟨hT0, -⟩ := hw.tail
  have HL : Hid (0 ≤ (decS (newest ws d 0)).1.life) := hw.life.1
  obtain ⟨r, hr⟩ : ∃ r, r = (supOf c n (newest ws d)).1 := ⟨_, rfl⟩
  have er : r = (decS (newest ws d 0)).1 := by rw [hr, m5]
  rw [← er] at hT hT0 HL
  have HM : Hid (MayC c) := m1
  have HN : Hid ((n : Int) = 1 + c.bl + c.lc) := m2
  have hlc := m1.2.1
  have hmr := m1.2.2.1
  obtain ⟨t, ht'⟩ : ∃ t, t = r.tail := ⟨_, rfl⟩
  obtain ⟨lf, hlf⟩ : ∃ lf, lf = r.life := ⟨_, rfl⟩
  rw [← ht'] at hT hT0
  obtain ⟨K, hK⟩ : ∃ K : Nat, c.lc = (K : Int) := ⟨c.lc.toNat, by omega⟩
  have HRUN : Hid (scanS c (newest ws d) r = ⟨t, lf, (scRun (stS c (newest ws d)) c.mr K t ⟨[], t, []⟩).fin, (scRun (stS c (newest ws d)) c.mr K t ⟨[], t, []⟩).txs⟩) := by
    show _ = _
    unfold scanS
    rw [← ht', ← hlf, hK, Int.toNat_natCast]
  rw [← hr, ← ht', ← hlf]
  clear m1 m2 m3 m4 m5 hw er h ht
  refine (callsIn_wide (n := 9)).1 ?_
  refine callsIn_of_wp_marks Tryd.func39 rfl trivial ?_ rfl
  simp only [Tryd.ntmps39, List.size_toArray, List.length_cons, List.length_nil, Nat.reduceAdd, Nat.reduceSub, Array.replicate_succ, Array.replicate_zero, List.push_toArray, List.append_toArray, List.nil_append, List.cons_append]
  gi_wp2_with ((with_reducible refine in_ops ?_); (first | (refine in_alloc (by rfl) 89 rfl A1.out ?_) | (refine in_load (by rfl) 28 rfl rfl L0.out ?_)); simp only [Act.put, List.setIfInBounds_toArray, List.set_cons_zero, List.set_cons_succ])
  refine wpIn_scope ?_
  gi_wp2_with ((with_reducible refine in_ops ?_); (first | (refine in_alloc (by rfl) 89 rfl A1.out ?_) | (refine in_load (by rfl) 28 rfl rfl L0.out ?_)); simp only [Act.put, List.setIfInBounds_toArray, List.set_cons_zero, List.set_cons_succ])
  clear ewa ewb A1
  refine ⟨trivial, (callsIn_wide.2 (superOf_any (HD.out.later B0.out) (HT.out.later B0.out) c)).mono ?_⟩
  rintro e w1 ⟨rfl, b1⟩
  rw [hz, ← hr]
  clear hr hz
  have B1 : Hid (Below w.heap.size w w1) := below_then B0.out b1
  have K1 : Hid (Boxed w1 w.heap.size 23 (.pointer (some ⟨p, 0, none⟩))) := (b1.block _ K0.out.lt).trans K0.out
  have C1 : Hid (CAt w1 (w.heap.size + 1) c) := LAt.later C0.out b1
  have V1 : Hid (LAt 89 w1 (w.heap.size + 1 + 1) (gcells 0 0 0 (.slice none 0 0))) := LAt.later V0.out b1
  have s1 : w.heap.size + 3 ≤ w1.heap.size := by have := LAt.lt V1.out; omega
  clear b1 B0 C0 V0 K0 L0 z0
  obtain ⟨w2, hw2⟩ : ∃ y, y = w1.alloc (.cells (scells r).toArray 53) := ⟨_, rfl⟩
  have A2 : Hid (_) := alloc29 w1
  have T2 : Hid (_) := store_new29 w1 r
  rw [← hw2] at T2
  have s2 : w2.heap.size = w1.heap.size + 1 := by rw [hw2]; simp
  have b2 : Below w1.heap.size w1 w2 := by rw [hw2]; exact below_alloc w1 _
  have Q2 : SAt 53 w2 w1.heap.size r := by rw [hw2]; exact LAt.new 53 w1 _
  obtain ⟨w3, hw3⟩ : ∃ y, y = w2.alloc (.cells (gcells t lf t (.slice none 0 0)).toArray 89) := ⟨_, rfl⟩
  have U3 : Hid (_) := buildL3 w2 t lf t
  have A3 : Hid (_) := allocLg w2
  have T3 : Hid (_) := storeLg w2 t lf t (v := .slice none 0 0) rfl
  rw [← hw3, s2] at T3
  rw [s2] at A3
  have s3 : w3.heap.size = w1.heap.size + 1 + 1 := by rw [hw3, ← s2]; simp
  have b3 : Below w2.heap.size w2 w3 := by rw [hw3]; exact below_alloc w2 _
  have G3 : LAt 89 w3 (w1.heap.size + 1) (gcells t lf t (.slice none 0 0)) := by rw [hw3, ← s2]; exact LAt.new 89 w2 _
  obtain ⟨w4, hw4⟩ : ∃ y, y = w3.alloc (.cells #[.slice none 0 0] 46) := ⟨_, rfl⟩
  have ew4 := hw4.symm
  have s4 : w4.heap.size = w1.heap.size + 1 + 1 + 1 := by rw [hw4, ← s3]; simp
  have b4 : Below w3.heap.size w3 w4 := by rw [hw4]; exact below_alloc w3 _
  have O4 : Boxed w4 (w1.heap.size + 1 + 1) 46 (.slice none 0 0) := by rw [hw4, ← s3]; exact Boxed.new w3 46 _
  have b14 : Below w1.heap.size w1 w4 := below_then (below_then b2 b3) b4
  have Q4 : SAt 53 w4 w1.heap.size r := LAt.later (LAt.later Q2 b3) b4
  have C4 : CAt w4 (w.heap.size + 1) c := LAt.later C1.out b14
  have q5 := SAt.c5 Q2
  have q6 := SAt.c6 Q2
  have q5' := SAt.c5 Q4
  have c1' := CAt.c1 C4
  rw [← ht'] at q5 q5'
  rw [← hlf] at q6
  rw [hK] at c1'
  have k1 : IntKind.u64.wrap (K : Int) = (K : Int) := G.wrap_u (by omega) (by omega)
  have k2 : IntKind.u64.wrap (t + (K : Int)) = t + (K : Int) := G.wrap_u (by omega) (by omega)
  have I4 : Hid (∀ W, Below w4.heap.size w4 W → Boxed W (w1.heap.size + 1 + 1 + 1) 33 (.int .u64 t) → Boxed W (w1.heap.size + 1 + 1 + 1 + 1) 33 (.int .u64 (t + (K : Int))) → RdM w W w.heap.size (w.heap.size + 1) (w.heap.size + 1 + 1) (w1.heap.size + 1) (w1.heap.size + 1 + 1) (w1.heap.size + 1 + 1 + 1) (w1.heap.size + 1 + 1 + 1 + 1) (some ⟨p, 0, none⟩) c t lf (t + (K : Int)) ⟨[], t, []⟩ (.slice none 0 0) [] (.slice none 0 0) w.heap.size) := by
    intro W hb hbt hbe
    have b1W := below_then b14 hb
    refine ⟨(b1W.block _ K1.out.lt).trans K1.out, LAt.later C1.out b1W, LAt.later V1.out b1W, hbt, hbe, LAt.later (LAt.later G3 b4) hb, (hb.block _ O4.lt).trans O4, XOwn.nil _ _ _, World.ownsRow_nil _ _ _ _, Rise.nil _, Nat.le_refl _, ?_, below_then B1.out b1W, by omega, by omega, by omega⟩
    have := hb.size; omega
  clear ht' hlf
  clear hw2 hw3 hw4 b2 b3 b4 b14 Q2 Q4 C4 G3 O4 C1 V1 K1
  gi_wp2_with ((with_reducible refine in_ops ?_); (first | (refine in_alloc (by rfl) 53 rfl A2.out ?_) | (refine in_store (by rfl) 53 rfl rfl rfl T2.out ?_) | (refine in_build (vs := [(0, .int .u64 t), (1, .int .u64 lf), (2, .int .u64 t)]) (by rfl) 89 rfl (by rfl) U3.out ?_) | (refine in_alloc (by rfl) 89 rfl A3.out ?_) | (refine in_store (by rfl) 89 rfl rfl rfl T3.out ?_)); simp only [Act.put, List.setIfInBounds_toArray, List.set_cons_zero, List.set_cons_succ])
  refine wpIn_label ?_
  gi_wp2_with (refine ⟨trivial, ?_⟩; gi_at_call 48; refine (callsIn_wide.2 (G.span_any _ _ _)).mono ?_; rintro e' w' ⟨rfl, rfl⟩)
  clear q5 q6 q5' c1' A2 T2 U3 A3 T3 ew4
  have bT : Hid (Boxed ((w4.alloc (.cells #[.int .u64 t] 33)).alloc (.cells #[.int .u64 (t + (K : Int))] 33)) (w1.heap.size + 1 + 1 + 1) 33 (.int .u64 t)) := by
    rw [← s4]; exact (Boxed.new w4 33 (.int .u64 t)).alloc _
  have bE : Hid (Boxed ((w4.alloc (.cells #[.int .u64 t] 33)).alloc (.cells #[.int .u64 (t + (K : Int))] 33)) (w1.heap.size + 1 + 1 + 1 + 1) 33 (.int .u64 (t + (K : Int)))) := by
    have := Boxed.new (w4.alloc (.cells #[.int .u64 t] 33)) 33 (.int .u64 (t + (K : Int)))
    rwa [World.size_alloc, s4] at this
  have b5 : Below w4.heap.size w4 ((w4.alloc (.cells #[.int .u64 t] 33)).alloc (.cells #[.int .u64 (t + (K : Int))] 33)) := below_then (below_alloc w4 _) (below_alloc _ _)
  have I5 : Hid (_) := I4.out _ b5 bT.out bE.out
  have s5 : ((w4.alloc (.cells #[.int .u64 t] 33)).alloc (.cells #[.int .u64 (t + (K : Int))] 33)).heap.size = w1.heap.size + 5 := by simp; omega
  clear I4 b5
  generalize (w4.alloc (.cells #[.int .u64 t] 33)).alloc (.cells #[.int .u64 (t + (K : Int))] 33) = W0 at *
  refine wpIn_rangeFunc_ownG (F := Fence.wide) (n := 9) (P := Tryd.prog) rfl (by decide) (gf := 57) (lb := #[.pointer (some ⟨w1.heap.size + 1 + 1 + 1, 0, none⟩), .pointer (some ⟨w1.heap.size + 1 + 1 + 1 + 1, 0, none⟩)]) rfl trivial (enters_of Tryd.func57 (by kernel_rfl) rfl)
    (G.span_stops Fence.wide (9 - 1) trivial rfl (by decide) (w1.heap.size + 1 + 1 + 1) (w1.heap.size + 1 + 1 + 1 + 1) t (t + (K : Int)) hT0 (by omega) (by omega) (by omega) W0 bT.out bE.out) G.Kept2.trans (G.Kept2.keeps (by omega) (by omega)) (Below.refl _ _) (fun _ => rfl)
    (fun pre W => ∃ s, GoAt (stS c (newest ws d)) c.mr t pre s ∧ ∃ v vs cv Bx, RdM w W w.heap.size (w.heap.size + 1) (w.heap.size + 1 + 1) (w1.heap.size + 1) (w1.heap.size + 1 + 1) (w1.heap.size + 1 + 1 + 1) (w1.heap.size + 1 + 1 + 1 + 1) (some ⟨p, 0, none⟩) c t lf (t + (K : Int)) s v vs cv Bx)
    (fun co pre' W => co = .exit 0 ∧ ∃ (pre : List G.U64) (u : G.U64) (s : Sc), pre' = pre ++ [u] ∧ GoAt (stS c (newest ws d)) c.mr t pre s ∧ ((stS c (newest ws d) u.1).2 = false ∨ scStep c.mr s u.1 (stS c (newest ws d) u.1).1 = none) ∧ ∃ v vs cv Bx, RdM w W w.heap.size (w.heap.size + 1) (w.heap.size + 1 + 1) (w1.heap.size + 1) (w1.heap.size + 1 + 1) (w1.heap.size + 1 + 1 + 1) (w1.heap.size + 1 + 1 + 1 + 1) (some ⟨p, 0, none⟩) c t lf (t + (K : Int)) s v vs cv Bx)
    ?hI ?hIx ⟨_, GoAt.start _ (by omega) t, _, _, _, _, I5.out⟩
    (fun x => { tmps := #[.pointer (some ⟨p, 0, none⟩), .agg (ccells c).toArray, .pointer (some ⟨w.heap.size, 0, none⟩), .pointer (some ⟨w.heap.size + 1, 0, none⟩), .pointer (some ⟨w.heap.size + 1 + 1, 0, none⟩), .int .i64 0, .pointer (some ⟨w1.heap.size, 0, none⟩), .int .i64 0, .pointer (some ⟨w1.heap.size + 1, 0, none⟩), .pointer (some ⟨w1.heap.size + 1 + 1, 0, none⟩), .int .u64 x.1, undef, undef, .tuple #[.agg (scells r).toArray, .int .i64 0], .pointer (some ⟨p, 0, none⟩), .agg (ccells c).toArray, .tuple #[.agg (scells r).toArray, .int .i64 0], .agg (scells r).toArray, .int .i64 0, .int .i64 0, .bool false, undef, undef, .pointer (some ⟨w1.heap.size, 5, none⟩), .int .u64 t, .pointer (some ⟨w1.heap.size, 6, none⟩), .int .u64 lf, .pointer (some ⟨w1.heap.size, 5, none⟩), .int .u64 t, .agg (gcells t lf t (.slice none 0 0)).toArray, .pointer (some ⟨w1.heap.size, 5, none⟩), .int .u64 t, .pointer (some ⟨w1.heap.size, 5, none⟩), .int .u64 t, .pointer (some ⟨w.heap.size + 1, 1, none⟩), .int .i64 (K : Int), .int .u64 (K : Int), .int .u64 (t + (K : Int)), .func (.func 57) #[] #[.pointer (some ⟨w1.heap.size + 1 + 1 + 1, 0, none⟩), .pointer (some ⟨w1.heap.size + 1 + 1 + 1 + 1, 0, none⟩)], .int .u64 x.1, undef, undef, undef, undef, undef, undef, undef, undef, undef, undef, undef, undef, undef, undef, undef, undef, undef, undef, undef, undef, undef, undef, undef, undef, undef, undef, undef, undef, undef, undef, undef, undef, undef, undef, undef, undef, undef, undef, undef, undef, undef, undef, undef, undef, undef, undef, undef, undef, undef, undef, undef, undef, undef], defers := [] }) ?assign ?body ?done ?stop
  case hI =>
    rintro pre V V' row ⟨s, hg, v, vs, cv, Bx, hm⟩ hgr hr
    exact ⟨s, hg, v, vs, cv, Bx, RdM.own (β := Unit) (by omega) () V V' row hm hgr hr⟩
  case hIx =>
    rintro co pre' V V' row ⟨hco, pre, u, s, h1, h2, h3, v, vs, cv, Bx, hm⟩ hgr hr
    exact ⟨hco, pre, u, s, h1, h2, h3, v, vs, cv, Bx, RdM.own (β := Unit) (by omega) () V V' row hm hgr hr⟩
  case assign =>
    intro l1 x V Kc hKc
    gi_wp2
    exact hKc
  case body =>
    rintro l1 pre u V ⟨s, hgo, v, vs, cv, Bx, hm⟩ hlt
    have hpl : pre.length ≤ 64 := by have := G.spanN_le t (t + (K : Int)); omega
    have HG : Hid (GoAt (stS c (newest ws d)) c.mr t pre s) := hgo
    have M0 : Hid (RdM w V w.heap.size (w.heap.size + 1) (w.heap.size + 1 + 1) (w1.heap.size + 1) (w1.heap.size + 1 + 1) (w1.heap.size + 1 + 1 + 1) (w1.heap.size + 1 + 1 + 1 + 1) (some ⟨p, 0, none⟩) c t lf (t + (K : Int)) s v vs cv Bx) := hm
    obtain ⟨q, cap, hcv, -, -, -⟩ := IOwn.in hm.im hgo.ok.cw
    have HCV : Hid (cv = .slice q s.come.length cap) := hcv
    have hcl : s.come.length ≤ 16 := by have := hgo.ok.cl; omega
    have htl : s.txs.length ≤ 64 := by have := hgo.ok.tl; omega
    have kd := hm.dk.cell
    have L4 : Hid (_) := CAt.load23 hm.cf
    have hu0 := u.2.1
    clear hm hgo hcv
    gi_wp2_with ((with_reducible refine in_ops ?_); (refine in_load (by rfl) 28 rfl rfl L4.out ?_); simp only [Act.put, List.setIfInBounds_toArray, List.set_cons_zero, List.set_cons_succ])
    refine ⟨trivial, (CallsIn.inRound l1 (callsIn_wide.2 (recordAt_any (HD.out.later M0.out.low) (HT.out.later M0.out.low) c HM.out HN.out u.1 hu0))).mono ?_⟩
    rintro e V1 ⟨rfl, b1⟩
    have HWf : Hid ((stS c (newest ws d) u.1).1.Wf) := stS_wf HBy.out
    have HGood : Hid ((stS c (newest ws d) u.1).2 = true → R.may (stS c (newest ws d) u.1).1 = true ∧ (stS c (newest ws d) u.1).1.pos = u.1) := fun h => ⟨(stS_good h).1, (stS_good h).2.1⟩
    have HNx : Hid (∀ z, stS c (newest ws d) u.1 = z → (z.2 = false ∨ scStep c.mr s u.1 z.1 = none) → (stS c (newest ws d) u.1).2 = false ∨ scStep c.mr s u.1 (stS c (newest ws d) u.1).1 = none) := by rintro z rfl h; exact h
    have HGo : Hid (∀ z s', stS c (newest ws d) u.1 = z → z.2 = true → scStep c.mr s u.1 z.1 = some s' → GoAt (stS c (newest ws d)) c.mr t (pre ++ [u]) s') := by
      rintro z s' rfl h1 h2
      exact HG.out.step (by omega) HWf.out h1 h2
    obtain ⟨⟨rr, bb⟩, hst⟩ : ∃ z, stS c (newest ws d) u.1 = z := ⟨_, rfl⟩
    have HNx' : Hid ((bb = false ∨ scStep c.mr s u.1 rr = none) → (stS c (newest ws d) u.1).2 = false ∨ scStep c.mr s u.1 (stS c (newest ws d) u.1).1 = none) := HNx.out _ hst
    have HGo' : Hid (∀ s', scStep c.mr s u.1 rr = some s' → bb = true → GoAt (stS c (newest ws d)) c.mr t (pre ++ [u]) s') := fun s' h2 h1 => HGo.out _ s' hst h1 h2
    rw [hst] at HWf HGood ⊢
    clear hst HNx HGo
    obtain ⟨V2, hV2⟩ : ∃ y, y = V1.alloc (.cells (R.rcells rr).toArray 108) := ⟨_, rfl⟩
    have A5 : Hid (_) := R.alloc31 V1
    have T5 : Hid (_) := R.store_new R.size31 V1 rr HWf.out.len
    rw [← hV2] at T5
    have b2 : Below V1.heap.size V1 V2 := by rw [hV2]; exact below_alloc V1 _
    have B2 : Hid (Below V.heap.size V V2) := below_then b1 b2
    have R2 : Hid (R.RAt 108 V2 V1.heap.size rr) := by rw [hV2]; exact R.RAt.new 108 V1 rr
    have M2 : Hid (RdM w V2 w.heap.size (w.heap.size + 1) (w.heap.size + 1 + 1) (w1.heap.size + 1) (w1.heap.size + 1 + 1) (w1.heap.size + 1 + 1 + 1) (w1.heap.size + 1 + 1 + 1 + 1) (some ⟨p, 0, none⟩) c t lf (t + (K : Int)) s v vs cv Bx) := M0.out.later B2.out
    have HK2 : Hid (KeepsFrom W0.heap.size V V2) := keeps_of_below B2.out _
    clear hV2 b1 b2 kd L4
    cases bb with
    | false =>
      have HX : Hid (_) := HNx'.out (.inl (by first | rfl | trivial))
      gi_wp2_with ((with_reducible refine in_ops ?_); (first | (refine in_alloc (by rfl) 108 rfl A5.out ?_) | (refine in_store (by rfl) 108 rfl rfl rfl T5.out ?_)); simp only [Act.put, List.setIfInBounds_toArray, List.set_cons_zero, List.set_cons_succ])
      exact ⟨HK2.out, rfl, pre, u, s, rfl, HG.out, HX.out, v, vs, cv, Bx, M2.out⟩
    | true =>
      have r0 := R.RAt.c0 R2.out
      by_cases hk1 : rr.kind = 1
      · have kc := M2.out.co.cell
        have r2 := R.RAt.c2 R2.out
        have c2 := CAt.c2 M2.out.cf
        rw [HCV.out] at kc
        have hk1' : (rr.kind == 1) = true := by simp [hk1]
        gi_wp2_with ((with_reducible refine in_ops ?_); (first | (refine in_alloc (by rfl) 108 rfl A5.out ?_) | (refine in_store (by rfl) 108 rfl rfl rfl T5.out ?_)); simp only [Act.put, List.setIfInBounds_toArray, List.set_cons_zero, List.set_cons_succ])
        have MI : MIn V2 q s.come.length s.come := by
          have h1 := M2.out.im
          rw [HCV.out] at h1
          obtain ⟨q', cap', e', mi, -, -⟩ := IOwn.in h1 HG.out.ok.cw
          cases e'
          exact mi
        refine ⟨trivial, (CallsIn.inRound l1 (callsIn_wide.2 (follows_any q s.come.length cap s.come rr.block c.mr V2 MI (by omega)))).mono ?_⟩
        rintro e V3 ⟨rfl, rfl⟩
        by_cases hf : Folls s.come rr.block c.mr
        · rw [decide_eq_true hf]
          have HS : Hid (_) := HGo'.out _ (scStep_img ⟨hk1, hf⟩) (by first | rfl | trivial)
          have LV : Hid (_) := R.RAt.load24 R2.out HWf.out.len
          have UI : Hid (_) := buildI V2 rr.block rr.val HWf.out.len
          have SI : Hid (_) := build_im V2 ⟨rr.block, rr.val⟩ HWf.out.len
          obtain ⟨v', V4, hrun, hco4, m4, k4⟩ := M2.out.img ⟨rr.block, rr.val⟩ ⟨⟨HWf.out.b0, HWf.out.b1⟩, HWf.out.len, HWf.out.byte⟩ (by omega)
          rw [HCV.out] at hrun hco4
          obtain ⟨g', cap', rfl⟩ : ∃ g' cap', v' = .slice (some ⟨g', 0, none⟩) (s.come.length + 1) cap' := ownsRow_succ (by have := m4.im; rw [IOwn, List.length_append, List.length_singleton] at this; exact this)
          have AP : Hid (_) := hrun
          have z := hco4.cell
          have zf := hco4.frozen
          have M4 : Hid (_) := m4
          have K4 : Hid (_) := HK2.out.trans (k4.from _)
          clear hrun hco4 m4 k4 MI hf
          gi_wp2_with ((with_reducible refine in_ops ?_); (first | (refine in_load (by rfl) 35 rfl rfl LV.out ?_) | (refine in_build (vs := [(0, .int .i64 rr.block), (1, .agg (U8 rr.val).toArray)]) (by rfl) 65 rfl (by rfl) UI.out ?_) | (refine in_slice (u := .agg (icells ⟨rr.block, rr.val⟩).toArray) (by rfl) 46 rfl rfl SI.out ?_) | (refine in_append (u1 := .slice q s.come.length cap) (u2 := .slice (some ⟨V2.heap.size, 0, none⟩) 1 1) (by rfl) rfl rfl rfl rfl AP.out ?_)); simp only [Act.put, List.setIfInBounds_toArray, List.set_cons_zero, List.set_cons_succ])
          refine ⟨K4.out, ⟨?_, ?_⟩, _, HS.out, v, vs, _, Bx, M4.out⟩
          · exact Eq.trans M4.out.bt (Eq.symm M0.out.bt)
          · exact Eq.trans M4.out.be (Eq.symm M0.out.be)
        · rw [decide_eq_false hf]
          have hk2' : (rr.kind == 2) = false := by simp [hk1]
          have HX : Hid (_) := HNx'.out (.inr (scStep_no (fun h => hf h.2) (fun h => by have := h.1; omega)))
          clear MI hf
          gi_wp2
          exact ⟨HK2.out, rfl, pre, u, s, rfl, HG.out, HX.out, v, vs, cv, Bx, M2.out⟩
      · have hk1' : (rr.kind == 1) = false := by simp [hk1]
        by_cases hk2 : rr.kind = 2
        · have hk2' : (rr.kind == 2) = true := by simp [hk2]
          have kc := M2.out.co.cell
          have r35 := R.RAt.c35 R2.out HWf.out.len
          rw [HCV.out] at kc
          by_cases hi : rr.images = (s.come.length : Int)
          · have hi' : (rr.images == (s.come.length : Int)) = true := by simp [hi]
            have HS : Hid (_) := HGo'.out _ (scStep_com ⟨hk2, hi⟩) (by first | rfl | trivial)
            have hpos : u.1 ≤ 4611686018427387904 := by
              have := HGood.out (by first | rfl | trivial)
              rw [← this.2]; exact R.may_pos this.1
            have g3 : V2.cell? ⟨w1.heap.size + 1, 3, none⟩ = some v := LAt.cell M2.out.lg 3
            obtain ⟨q3, cap3, hv3, -, -, -⟩ := XOwn.in M2.out.tx
            have UT : Hid (_) := buildT V2 u.1 q s.come.length cap
            have SL : Hid (_) := build_tx V2 u.1 q s.come.length cap
            obtain ⟨v', V4, hrun, hlg4, hco4, m4, k4⟩ := M2.out.com u.1 ⟨hu0, by omega⟩ htl HG.out.ok.cw q s.come.length cap HCV.out
            rw [HCV.out] at hrun
            rw [hv3] at hrun g3
            obtain ⟨g', cap', rfl⟩ : ∃ g' cap', v' = .slice (some ⟨g', 0, none⟩) (s.txs.length + 1) cap' := ownsRow_succ (by have := m4.tx.row; rw [List.length_append, List.length_singleton] at this; exact this)
            have AP : Hid (_) := hrun
            have z3 : V4.cell? ⟨w1.heap.size + 1, 3, none⟩ = some (.slice q3 s.txs.length cap3) := by rw [← hv3]; exact LAt.cell hlg4 3
            have zf3 := LAt.free hlg4 3
            have hlg5 := LAt.set hlg4 3 (.slice (some ⟨g', 0, none⟩) (s.txs.length + 1) cap')
            have z2 : (V4.setCell ⟨w1.heap.size + 1, 3, none⟩ (.slice (some ⟨g', 0, none⟩) (s.txs.length + 1) cap')).cell? ⟨w1.heap.size + 1, 2, none⟩ = some (.int .u64 s.fin) := LAt.cell hlg5 2
            have zf2 := LAt.free hlg5 2
            have hco6 : LAt 46 ((V4.setCell ⟨w1.heap.size + 1, 3, none⟩ (.slice (some ⟨g', 0, none⟩) (s.txs.length + 1) cap')).setCell ⟨w1.heap.size + 1, 2, none⟩ (.int .u64 (u.1 + 1))) (w1.heap.size + 1 + 1) [cv] := LAt.setO (LAt.setO (show LAt 46 V4 (w1.heap.size + 1 + 1) [cv] from hco4) 3 (.slice (some ⟨g', 0, none⟩) (s.txs.length + 1) cap') (by omega)) 2 _ (by omega)
            have z0 : ((V4.setCell ⟨w1.heap.size + 1, 3, none⟩ (.slice (some ⟨g', 0, none⟩) (s.txs.length + 1) cap')).setCell ⟨w1.heap.size + 1, 2, none⟩ (.int .u64 (u.1 + 1))).cell? ⟨w1.heap.size + 1 + 1, 0, none⟩ = some (.slice q s.come.length cap) := by rw [← HCV.out]; exact LAt.cell hco6 0
            have zf0 := LAt.free hco6 0
            have hadd : IntKind.u64.wrap (u.1 + 1) = u.1 + 1 := G.wrap_u (by omega) (by omega)
            have M4 : Hid (_) := m4
            have K4 : Hid (_) := HK2.out.trans (k4.from _)
            clear hrun hlg4 hco4 m4 k4 hlg5 hco6 hi
            gi_wp2_with ((with_reducible refine in_ops ?_); (first | (refine in_alloc (by rfl) 108 rfl A5.out ?_) | (refine in_store (by rfl) 108 rfl rfl rfl T5.out ?_)); simp only [Act.put, List.setIfInBounds_toArray, List.set_cons_zero, List.set_cons_succ])
            refine ⟨trivial, ?_⟩
            gi_wp2_with ((with_reducible refine in_ops ?_); (first | (refine in_build (vs := [(0, .int .u64 u.1), (1, .slice q s.come.length cap)]) (by rfl) 113 rfl (by rfl) UT.out ?_) | (refine in_slice (u := .agg #[.int .u64 u.1, .slice q s.come.length cap]) (by rfl) 87 rfl rfl SL.out ?_) | (refine in_append (u1 := .slice q3 s.txs.length cap3) (u2 := .slice (some ⟨V2.heap.size, 0, none⟩) 1 1) (by rfl) rfl rfl rfl rfl AP.out ?_)); simp only [Act.put, List.setIfInBounds_toArray, List.set_cons_zero, List.set_cons_succ])
            refine ⟨K4.out, ⟨?_, ?_⟩, _, HS.out, _, _, _, _, M4.out⟩
            · exact Eq.trans M4.out.bt (Eq.symm M0.out.bt)
            · exact Eq.trans M4.out.be (Eq.symm M0.out.be)
          · have hi' : (rr.images == (s.come.length : Int)) = false := by simp [hi]
            have HX : Hid (_) := HNx'.out (.inr (scStep_no (fun h => hk1 h.1) (fun h => hi h.2)))
            clear hi
            gi_wp2_with ((with_reducible refine in_ops ?_); (first | (refine in_alloc (by rfl) 108 rfl A5.out ?_) | (refine in_store (by rfl) 108 rfl rfl rfl T5.out ?_)); simp only [Act.put, List.setIfInBounds_toArray, List.set_cons_zero, List.set_cons_succ])
            refine ⟨trivial, ?_⟩
            gi_wp2
            exact ⟨HK2.out, rfl, pre, u, s, rfl, HG.out, HX.out, v, vs, cv, Bx, M2.out⟩
        · have hk2' : (rr.kind == 2) = false := by simp [hk2]
          have HX : Hid (_) := HNx'.out (.inr (scStep_no (fun h => hk1 h.1) (fun h => hk2 h.1)))
          gi_wp2_with ((with_reducible refine in_ops ?_); (first | (refine in_alloc (by rfl) 108 rfl A5.out ?_) | (refine in_store (by rfl) 108 rfl rfl rfl T5.out ?_)); simp only [Act.put, List.setIfInBounds_toArray, List.set_cons_zero, List.set_cons_succ])
          refine ⟨trivial, ?_⟩
          gi_wp2
          exact ⟨HK2.out, rfl, pre, u, s, rfl, HG.out, HX.out, v, vs, cv, Bx, M2.out⟩
  case done =>
    rintro D ys V hD hS ⟨s, hgo, v, vs, cv, Bx, hm⟩ hK'
    have HR : Hid (scRun (stS c (newest ws d)) c.mr K t ⟨[], t, []⟩ = s) := hgo.done (by omega) hS
    clear hgo hS
    have LL : Hid (_) := LAt.loadLg hm.lg
    have TL : Hid (_) := LAt.store (ds := gcells t lf s.fin v) hm.rs sizeLg rfl (all_oneCell_toArray (gcells_ones (own_one hm.tx.row) t lf s.fin))
    obtain ⟨f1, f2, f3, f4, f5⟩ := hm.fin (D := D) (by omega) (by omega) hK' (by omega)
    have HF : Hid (_) := (⟨f1, f2, f3, f4, f5⟩ : _ ∧ _ ∧ _ ∧ _ ∧ _)
    clear f1 f2 f3 f4 f5 hm hK'
    gi_wp2_with ((with_reducible refine in_ops ?_); (first | (refine in_load (by rfl) 89 rfl rfl LL.out ?_) | (refine in_store (by rfl) 89 rfl rfl rfl TL.out ?_)); simp only [Act.put, List.setIfInBounds_toArray, List.set_cons_zero, List.set_cons_succ])
    try rw [Exit.noGoto_ret]
    refine ⟨by simp, .inl ⟨_, _, rfl, run_takeDeferred HF.out.1, ?_⟩⟩
    refine ⟨_, results_lat Tryd.results39 _ _ (w.heap.size + 1 + 1) 89 _ _ (by rfl) HF.out.2.1 Tryd.underlying89 rfl sizeLg, v, vs, ?_, ?_, HF.out.2.2.2.1, HF.out.2.2.2.2⟩
    · rw [HRUN.out, HR.out]; rfl
    · rw [HRUN.out, HR.out]; exact HF.out.2.2.1
  case stop =>
    rintro D co pre' V hD hpre ⟨rfl, pre, u, s, rfl, hgo, hst, v, vs, cv, Bx, hm⟩ hK'
    have HR : Hid (scRun (stS c (newest ws d)) c.mr K t ⟨[], t, []⟩ = s) := hgo.stop (by omega) hpre hst
    clear hgo hst hpre
    have LL : Hid (_) := LAt.loadLg hm.lg
    have TL : Hid (_) := LAt.store (ds := gcells t lf s.fin v) hm.rs sizeLg rfl (all_oneCell_toArray (gcells_ones (own_one hm.tx.row) t lf s.fin))
    obtain ⟨f1, f2, f3, f4, f5⟩ := hm.fin (D := D) (by omega) (by omega) hK' (by omega)
    have HF : Hid (_) := (⟨f1, f2, f3, f4, f5⟩ : _ ∧ _ ∧ _ ∧ _ ∧ _)
    clear f1 f2 f3 f4 f5 hm hK'
    gi_wp2_with ((with_reducible refine in_ops ?_); (first | (refine in_load (by rfl) 89 rfl rfl LL.out ?_) | (refine in_store (by rfl) 89 rfl rfl rfl TL.out ?_)); simp only [Act.put, List.setIfInBounds_toArray, List.set_cons_zero, List.set_cons_succ])
    try rw [Exit.noGoto_ret]
    refine ⟨by simp, .inl ⟨_, _, rfl, run_takeDeferred HF.out.1, ?_⟩⟩
    refine ⟨_, results_lat Tryd.results39 _ _ (w.heap.size + 1 + 1) 89 _ _ (by rfl) HF.out.2.1 Tryd.underlying89 rfl sizeLg, v, vs, ?_, ?_, HF.out.2.2.2.1, HF.out.2.2.2.2⟩
    · rw [HRUN.out, HR.out]; rfl
    · rw [HRUN.out, HR.out]; exact HF.out.2.2.1
end Go.Proofs.YtdadpepfpiimgaaDoor
namespace Go.Proofs.YtdadpepfpiimgaaDoor
open Go.RowKit
theorem read_any10 {w : World} {S : Nat → Prop} {p n : Nat} {d : List Int} {ws : List Wr} (h : Dsk w S p n d ws) (ht : Tab w) (c : Sup) :
    Calls Tryd.prog 39 #[.pointer (some ⟨p, 0, none⟩), .agg (ccells c).toArray] w fun e w' => ∃ q cp vs, e = .returned (.tuple #[.agg (gcells (rdL c n (newest ws d)).1.tail (rdL c n (newest ws d)).1.life (rdL c n (newest ws d)).1.fin (.slice q (rdL c n (newest ws d)).1.txs.length cp)).toArray, .int .i64 (rdL c n (newest ws d)).2]) ∧ XOwn 113 w' w.heap.size (.slice q (rdL c n (newest ws d)).1.txs.length cp) (rdL c n (newest ws d)).1.txs vs ∧ Rise vs w'.heap.size ∧ Below w.heap.size w w' := by
  by_cases hz : (supOf c n (newest ws d)).2 = 0
  · rw [rdL_ok hz]
    refine (read_ok10 h ht c hz).mono ?_
    rintro e w' ⟨v, vs, rfl, hx, hr, hb⟩
    obtain ⟨q, cp, rfl, -⟩ := XOwn.in hx
    exact ⟨q, cp, vs, rfl, hx, hr, hb⟩
  · rw [rdL_no hz]
    refine (read_err10 h ht c hz).mono ?_
    rintro e w' ⟨rfl, hb⟩
    exact ⟨none, 0, [], rfl, XOwn.nil _ _ _, Rise.nil _, hb⟩
theorem supOf_new {c : Sup} (h : MayC c) {rd : Nat → List Int} (h0 : rd 0 = encS (sup1 c)) : supOf c (cntS c) rd = (sup1 c, 0) := by
  have e : decS (rd 0) = (sup1 c, 0) := by rw [h0]; exact decS_encS _ (sup1_wf h) (sup1_may h)
  rw [supOf_ok h (cntS_is h) (by rw [e]) (by rw [e]; exact ⟨rfl, rfl, rfl, rfl, rfl⟩), e]
theorem rdL_new {c : Sup} (h : MayC c) {rd : Nat → List Int} (h0 : rd 0 = encS (sup1 c)) {s : Sc} (hs : scRun (stS c rd) c.mr c.lc.toNat 0 ⟨[], 0, []⟩ = s) : rdL c (cntS c) rd = (⟨0, 1, s.fin, s.txs⟩, 0) := by
  have e := supOf_new h h0
  rw [rdL_ok (by rw [e]), e]
  show (scanS c rd (sup1 c), (0 : Int)) = _
  unfold scanS
  show ((⟨0, 1, (scRun (stS c rd) c.mr c.lc.toNat 0 ⟨[], 0, []⟩).fin, (scRun (stS c rd) c.mr c.lc.toNat 0 ⟨[], 0, []⟩).txs⟩ : LogS), (0 : Int)) = _
  rw [hs]
theorem st_blank {c : Sup} {rd : Nat → List Int} {p : Int} (h : rd (1 + c.bl + p % c.lc).toNat = zs 64) : (stS c rd p).2 = false := by
  rw [stS_no fun k => zs64_no (by rw [← h]; exact k.1)]
end Go.Proofs.YtdadpepfpiimgaaDoor
