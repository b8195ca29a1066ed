/-
  Layer 15: the graph of edges. Layer 15: Ring.
-/
import Derived.Test.YtkgjmejpbklabaaGreatN11
import Derived.Deep.LoopGhost
namespace Go.Proofs.YtkgjmejpbklabaaGreat
open Go.RowKit
open B (IIn I64)
/-- what stands while the edges are noted -/
structure Gst (w W : World) (k g6 tg cT ng : Nat) (ts : List Int) (vs : List Value) (bk : List (List Nat)) : Prop where
  bel : RowKit.Below w.heap.size w W
  res : GBx W w.heap.size nils nils
  bx : GBx W g6 (.slice (some ⟨tg, 0, none⟩) k cT) (.slice (some ⟨ng, 0, none⟩) k k)
  tk : W.ownsRow w.heap.size 44 1 (.slice (some ⟨tg, 0, none⟩) k cT) k (U64 ts)
  rws : Rws W w.heap.size ng k vs bk
  lg : w.heap.size < g6
theorem Gst.tc {w W : World} {k g6 tg cT ng : Nat} {ts : List Int} {vs : List Value} {bk : List (List Nat)} (h : Gst w W k g6 tg cT ng ts vs bk) : TC W tg ts ∧ ts.length = k := by
  have hl : ts.length = k := by have := h.tk.1; simp [U64] at this; omega
  exact ⟨fun j hj => O.own_cell h.tk (U64_get hj), hl⟩
theorem Gst.later {w W W' : World} {k g6 tg cT ng : Nat} {ts : List Int} {vs : List Value} {bk : List (List Nat)} (h : Gst w W k g6 tg cT ng ts vs bk) (hb : RowKit.Below W.heap.size W W') : Gst w W' k g6 tg cT ng ts vs bk := { h with
  bel := below_then h.bel hb
  res := h.res.later hb
  bx := h.bx.later hb
  tk := O.own_later h.tk hb
  rws := h.rws.later hb }
theorem edge_c1 {w : World} {b : Nat} {x y z u : Value} (h : w.heap[b]? = some (.cells #[x, y, z, u] 46 (0, 0))) : w.cell? ⟨b, 1, none⟩ = some y := by rw [cell_of_row _ b 1 _ 46 (0, 0) h]; rfl
theorem edge_c0 {w : World} {b : Nat} {x y z u : Value} (h : w.heap[b]? = some (.cells #[x, y, z, u] 46 (0, 0))) : w.cell? ⟨b, 0, none⟩ = some x := by rw [cell_of_row _ b 0 _ 46 (0, 0) h]; rfl
/-- behind 'append' onto one of the lists, and behind its being put back -/
theorem Gst.noted {w we w' : World} {k g6 tg cT ng a x : Nat} {ts : List Int} {vs : List Value} {bk : List (List Nat)} {v' : Value} (h : Gst w we k g6 tg cT ng ts vs bk) (ha : a < k) (ho : w'.ownsRow w.heap.size 3 1 v' ((bk.getD a []).length + 1) (I64 (nz (bk.getD a [])) ++ [.int .i64 (x : Int)]))
    (hk : Kept (fun b => (vs.getD a nils).ownBlock = some b) (we.alloc (Obj.cells #[Value.int .i64 (x : Int)] 3)) w') (hv : v'.ownBlock = (vs.getD a nils).ownBlock ∨ v'.ownBlock = some (we.alloc (Obj.cells #[Value.int .i64 (x : Int)] 3)).heap.size) :
    GBx w' g6 (.slice (some ⟨tg, 0, none⟩) k cT) (.slice (some ⟨ng, 0, none⟩) k k) ∧ w'.ownsRow w.heap.size 72 1 (.slice (some ⟨ng, 0, none⟩) k k) k vs ∧ Gst w (w'.setCell ⟨ng, a, none⟩ v') k g6 tg cT ng ts (vs.set a v') (bk.set a (bk.getD a [] ++ [x])) ∧
      ∀ (b : Nat) (cs : Array Value), we.heap[b]? = some (Obj.cells cs 46 (0, 0)) → w'.heap[b]? = some (Obj.cells cs 46 (0, 0)) := by
  obtain ⟨h1, h2, h3, h4, h5⟩ := h.rws.grown ha ho hk hv
  have hkw : Kept (fun b => (vs.getD a nils).ownBlock = some b) we w' := (Kept.of_below _ (below_alloc we _)).trans hk fun _ _ h => h
  have hrw := h.rws.row a ha
  have ht1 : w'.ownsRow w.heap.size 44 1 (.slice (some ⟨tg, 0, none⟩) k cT) k (U64 ts) := O.own_far h.tk hkw fun z hz hc => O.own_ne hrw h.tk (by decide) hc hz
  refine ⟨h1 _ _ _ h.bx, h2, { bel := h5 w h.bel (Nat.le_refl _), res := h4 _ _ _ h.res, bx := h4 _ _ _ h.bx, tk := ?_, rws := h3, lg := h.lg }, fun b cs hb => ?_⟩
  · refine O.own_far ht1 (Kept.setCell ng a v') fun z hz e => ?_
    subst e
    exact O.own_ne ht1 h2 (by decide) hz rfl
  · exact (hkw.block b (Array.getElem?_eq_some_iff.1 hb).1 fun e => O.own_not hrw hb (by decide) e).trans hb
theorem ownBlock_len {p : Option Addr} {n m c : Nat} : (Value.slice p n c).ownBlock = (Value.slice p m c).ownBlock := by cases p <;> rfl
/-- one list is sorted, each place once, and put back -/
theorem Gst.tidied {w we w' : World} {k g6 tg cT ng i : Nat} {ts : List Int} {vs : List Value} {bk : List (List Nat)} {row : List Nat} {v' : Value} (h : Gst w we k g6 tg cT ng ts vs bk) (ha : i < k) (hk : Kept (fun b => (vs.getD i nils).ownBlock = some b) we w') (ho : w'.ownsRow w.heap.size 3 1 v' row.length (I64 (nz row)))
    (hv : ∀ b, v'.ownBlock = some b → (vs.getD i nils).ownBlock = some b ∨ we.heap.size ≤ b) :
    GBx w' g6 (.slice (some ⟨tg, 0, none⟩) k cT) (.slice (some ⟨ng, 0, none⟩) k k) ∧ w'.ownsRow w.heap.size 72 1 (.slice (some ⟨ng, 0, none⟩) k k) k vs ∧ Gst w (w'.setCell ⟨ng, i, none⟩ v') k g6 tg cT ng ts (vs.set i v') (bk.set i row) := by
  obtain ⟨h2, h3⟩ := h.rws.turn ha ho hk hv
  have hrw := h.rws.row i ha
  have hg1 : ∀ b (x y : Value), GBx we b x y → GBx w' b x y := fun b x y hb => hb.far hk fun hc => O.own_not hrw hb (by decide) hc
  have hg2 : ∀ b (x y : Value), GBx w' b x y → GBx (w'.setCell ⟨ng, i, none⟩ v') b x y := fun b x y hb => hb.far (Kept.setCell ng i v') fun e => by
    subst e
    exact O.own_not h2 hb (by decide) rfl
  have ht1 : w'.ownsRow w.heap.size 44 1 (.slice (some ⟨tg, 0, none⟩) k cT) k (U64 ts) := O.own_far h.tk hk fun z hz hc => O.own_ne hrw h.tk (by decide) hc hz
  have hb1 : RowKit.Below w.heap.size w w' := Kept.into hk h.bel (fun b hb hc => by have := (hrw.lt b hc).1; omega) (Nat.le_refl _)
  refine ⟨hg1 _ _ _ h.bx, h2, { bel := hb1.setCell (h2.lt ng rfl).1 v', res := hg2 _ _ _ (hg1 _ _ _ h.res), bx := hg2 _ _ _ (hg1 _ _ _ h.bx), tk := ?_, rws := h3, lg := h.lg }⟩
  refine O.own_far ht1 (Kept.setCell ng i v') fun z hz e => ?_
  subst e
  exact O.own_ne ht1 h2 (by decide) hz rfl
set_option maxHeartbeats 2000000 in
set_option maxRecDepth 100000 in
theorem graphOf_at {w : World} {p : Option Addr} {n c : Nat} {es : List Eg} (hE : EIn w p n es) (hz : n ≤ 4500) :
    Calls Tryz.prog 22 #[.slice p n c] w fun e w' => ∃ (tg cT ng : Nat) (ts : List Int) (nx : List (List Nat)), e = .returned (.agg #[.slice (some ⟨tg, 0, none⟩) ts.length cT, .slice (some ⟨ng, 0, none⟩) ts.length ts.length]) ∧ RowKit.Below w.heap.size w w' ∧ GIs (egs es) ts nx ∧ ts.length ≤ 9000 ∧
      w'.ownsRow w.heap.size 44 1 (.slice (some ⟨tg, 0, none⟩) ts.length cT) ts.length (U64 ts) ∧ NIn (fun k => w.heap.size ≤ k ∧ k < w'.heap.size) w' (.slice (some ⟨ng, 0, none⟩) ts.length ts.length) nx := by
  have hl := hE.len
  have HE : Hid (∀ W, RowKit.Below w.heap.size w W → EIn W p n es) := fun W hW => hE.later hW
  have hmk := fun w => make_u64s w (2 * n) (by omega)
  rw [show ((2 * n : Nat) : Int) = 2 * (n : Int) by omega] at hmk
  have HL : Hid (es.length = n) := hl
  have HB0 : Hid (RowKit.Below w.heap.size w ((w.alloc (Obj.cells #[nils, nils] 70)).alloc (Obj.cells (List.replicate (2 * n) (Value.int .u64 0)).toArray 44))) := below_then (below_alloc w _) (below_alloc _ _)
  have HG0 : Hid (GBx ((w.alloc (Obj.cells #[nils, nils] 70)).alloc (Obj.cells (List.replicate (2 * n) (Value.int .u64 0)).toArray 44)) w.heap.size nils nils) := (GBx.new w nils nils).later (below_alloc _ _)
  have HO0 : Hid (((w.alloc (Obj.cells #[nils, nils] 70)).alloc (Obj.cells (List.replicate (2 * n) (Value.int .u64 0)).toArray 44)).ownsRow w.heap.size 44 1 (.slice (some ⟨w.heap.size + 1, 0, none⟩) 0 (2 * n)) 0 []) := by
    have := own_cap (w.alloc (Obj.cells #[nils, nils] 70)) (2 * n) (by omega) (base := w.heap.size) (by simp)
    rw [World.size_alloc] at this
    exact this
  rw [show (List.replicate (2 * n) (Value.int .u64 0)).toArray = Array.replicate (2 * n) (Value.int .u64 0) by simp] at HB0 HG0 HO0
  clear hE hl
  go_enter Tryz.func22, Tryz.ntmps22
  go_wp2_with fail
  clear hmk
  generalize ((w.alloc (Obj.cells #[nils, nils] 70)).alloc (Obj.cells (Array.replicate (2 * n) (Value.int .u64 0)) 44)) = W0 at HB0 HG0 HO0 ⊢
  go_loopw [3, 18] (fun v v2 W => ∃ (g c' j : Nat), v = .slice (some ⟨g, 0, none⟩) (2 * j) c' ∧ v2 = .int .i64 (j : Int) ∧ j ≤ n ∧ Hid (RowKit.Below w.heap.size w W) ∧ Hid (GBx W w.heap.size nils nils) ∧ Hid (W.ownsRow w.heap.size 44 1 (.slice (some ⟨g, 0, none⟩) (2 * j) c') (2 * j) (U64 (ends (egs (es.take j)))))) (fun v v2 _ => n - (intV v2).toNat)
  case atStart => exact ⟨w.heap.size + 1, 2 * n, 0, rfl, rfl, by omega, HB0, HG0, by simpa [ends] using HO0⟩
  case round =>
    obtain ⟨g, c', j, rfl, rfl, hj, HB, HG, HO⟩ := hrel
    by_cases hjn : j < n
    · obtain ⟨eb, eo, rfl, hcs⟩ := (HE.out wr HB.out).cells (by omega)
      obtain ⟨h1, h2, h3, h4⟩ := hcs j hjn
      have HT : Hid (es.take (j + 1) = es.take j ++ [es.getD j noEg]) := by
        have := HL.out
        show _ = _
        rw [List.take_add_one, List.getElem?_eq_getElem (by omega)]
        simp [List.getD, List.getElem?_eq_getElem (show j < es.length by omega)]
      clear hcs
      generalize es.getD j noEg = ed at *
      obtain ⟨ef, et, ey, ebk⟩ := ed
      simp only at h1 h2 h3 h4
      have HO2 : Hid ((wr.alloc (Obj.cells #[Value.int .u64 ef, .int .u64 et, .int .i64 ey, .int .i64 ebk] 46)).ownsRow w.heap.size 44 1 (.slice (some ⟨g, 0, none⟩) (2 * j) c') (2 * j) (U64 (ends (egs (es.take j))))) := O.own_later HO.out (below_alloc _ _)
      have HSZ : Hid (w.heap.size ≤ (wr.alloc (Obj.cells #[Value.int .u64 ef, .int .u64 et, .int .i64 ey, .int .i64 ebk] 46)).heap.size) := by have := HB.out.size; show _ ≤ _; simp; omega
      go_wp2_with (at_builtin; refine O.wpList_two rfl (.tmp 22) (.tmp 27) O.elU rfl rfl HO2.out _ _ rfl (by simp) rfl rfl (by omega) HSZ.out ?_; intro g3 c3 w3 ho hk; have HO3 : Hid (w3.ownsRow w.heap.size 44 1 (.slice (some ⟨g3, 0, none⟩) (2 * j + 2) c3) (2 * j + 2) (U64 (ends (egs (es.take j))) ++ [.int .u64 ef, .int .u64 et])) := ho; have HK3 : Hid (Kept (fun b => (Value.slice (some ⟨g, 0, none⟩) (2 * j) c').ownBlock = some b) (wr.alloc (Obj.cells #[Value.int .u64 ef, .int .u64 et, .int .i64 ey, .int .i64 ebk] 46)) w3) := hk; clear ho hk)
      go_roundw
      case rel =>
        have hK : Kept (fun b => (Value.slice (some ⟨g, 0, none⟩) (2 * j) c').ownBlock = some b) wr w3 := (Kept.of_below _ (below_alloc _ _)).trans HK3.out fun _ _ h => h
        refine ⟨g3, c3, j + 1, rfl, rfl, by omega, hK.into HB.out (fun b hb e => by have := (HO.out.lt b e).1; omega) (Nat.le_refl _), HG.out.far hK (fun e => O.own_not HO.out HG.out (by decide) e), ?_⟩
        have := HO3.out
        show World.ownsRow _ _ _ _ _ _ _
        rw [HT.out, egs, List.map_append, List.map_singleton, ends_snoc, U64, List.map_append]
        exact this
      case measure => simp [intV]; omega
    · obtain rfl : j = n := by omega
      have HO1 : Hid (wr.ownsRow w.heap.size 44 1 (.slice (some ⟨g, 0, none⟩) (2 * j) c') (2 * j) (U64 (ends (egs es)))) := by
        have := HO.out
        rw [← HL.out, List.take_length] at this
        rw [← HL.out]
        exact this
      clear HO
      go_wp2_with fail
      refine (sortU_own HO1.out (by omega)).mono ?_
      rintro e w1 ⟨rfl, hk1, R, hp, hsR, hO1⟩
      have HB1 : Hid (RowKit.Below w.heap.size w w1) := hk1.into HB.out (fun b hb e => by have := (HO1.out.lt g rfl).1; omega) (Nat.le_refl _)
      have HG1 : Hid (GBx w1 w.heap.size nils nils) := HG.out.far hk1 (fun e => O.own_not HO1.out HG.out (by decide) (by rw [e]; rfl))
      have HOR : Hid (w1.ownsRow w.heap.size 44 1 (.slice (some ⟨g, 0, none⟩) (2 * j) c') (2 * j) (U64 R)) := hO1
      have HPR : Hid (R.Perm (ends (egs es)) ∧ R.Pairwise (· ≤ ·)) := ⟨hp, hsR⟩
      clear HB HG HO1 hk1 hp hsR hO1
      go_wp2_with fail
      refine (compactU_own HOR.out (by omega) HPR.out.2).mono ?_
      rintro e w2 ⟨ts, rfl, hk2, hO2, hup, hmem, htl⟩
      have HB2 : Hid (RowKit.Below w.heap.size w w2) := hk2.into HB1.out (fun b hb e => by have := (HOR.out.lt g rfl).1; omega) (Nat.le_refl _)
      have HG2 : Hid (GBx w2 w.heap.size nils nils) := HG1.out.far hk2 (fun e => O.own_not HOR.out HG1.out (by decide) (by rw [e]; rfl))
      have HUP : Hid (ts.Pairwise (· < ·) ∧ ∀ x, x ∈ ts ↔ ∃ e ∈ egs es, x = e.1 ∨ x = e.2) := ⟨hup, fun x => by rw [hmem, HPR.out.1.mem_iff, ends_mem]⟩
      obtain ⟨k, hk⟩ : ∃ k, ts.length = k := ⟨_, rfl⟩
      have HTK : Hid (ts.length = k) := hk
      rw [hk] at hO2 htl ⊢
      have HT2 : Hid (w2.ownsRow w.heap.size 44 1 (.slice (some ⟨g, 0, none⟩) k c') k (U64 ts)) := hO2
      clear HB1 HG1 HOR HPR hk2 hO2 hup hmem hk
      have hmk := fun w => make_intss w k (by omega)
      go_wp2_with fail
      clear hmk
      have HS0 : Hid (Gst w ((w2.alloc (Obj.cells #[Value.slice (some ⟨g, 0, none⟩) k c', Value.slice (some ⟨w2.heap.size + 1, 0, none⟩) k k] 70)).alloc (Obj.cells (Array.replicate k nils) 72)) k w2.heap.size g c' (w2.heap.size + 1) ts (List.replicate k nils) (List.replicate k [])) := by
        have hg := heap_alloc_new (w2.alloc (Obj.cells #[Value.slice (some ⟨g, 0, none⟩) k c', Value.slice (some ⟨w2.heap.size + 1, 0, none⟩) k k] 70)) (Obj.cells (Array.replicate k nils) 72)
        rw [World.size_alloc] at hg
        exact {
          bel := below_then (below_then HB2.out (below_alloc _ _)) (below_alloc _ _)
          res := (HG2.out.later (below_alloc _ _)).later (below_alloc _ _)
          bx := (GBx.new w2 _ _).later (below_alloc _ _)
          tk := O.own_later (O.own_later HT2.out (below_alloc _ _)) (below_alloc _ _)
          rws := Rws.start (own_rep (by omega) (by have := HB2.out.size; omega) hg)
          lg := HG2.out.lt }
      have HGR0 : Hid (Gri (egs es) ts 0 (List.replicate k [])) := by
        have := Gri.start (egs es) ts
        rw [HTK.out] at this
        exact this
      generalize ((w2.alloc (Obj.cells #[Value.slice (some ⟨g, 0, none⟩) k c', Value.slice (some ⟨w2.heap.size + 1, 0, none⟩) k k] 70)).alloc (Obj.cells (Array.replicate k nils) 72)) = W3 at HS0 ⊢
      generalize w2.heap.size = g6 at HS0 ⊢
      generalize g6 + 1 = ng at HS0 ⊢
      clear HB2 HG2 HT2 HB0 HG0 HO0
      generalize g = tg at *
      generalize c' = cT at *
      go_loopw [42] (fun v W => ∃ (i : Nat) (vs : List Value) (bk : List (List Nat)), v = .int .i64 (i : Int) ∧ i ≤ j ∧ Hid (Gst w W k g6 tg cT ng ts vs bk) ∧ Hid (Gri (egs es) ts i bk)) (fun v _ => j - (intV v).toNat)
      case atStart => exact ⟨0, _, _, rfl, by omega, HS0, HGR0⟩
      case round =>
        obtain ⟨i, vs, bk, rfl, hij, HST0, HGR⟩ := hrel
        by_cases hin : i < j
        · obtain ⟨eb, eo, rfl, hcs⟩ := (HE.out wr HST0.out.bel).cells (by omega)
          obtain ⟨h1, h2, h3, h4⟩ := hcs i hin
          have hei : (egs es)[i]? = some (es.getD i noEg).pr := by
            have := HL.out
            simp [egs, List.getD, List.getElem?_eq_getElem (show i < es.length by omega)]
          have hfa := (HUP.out.2 (es.getD i noEg).pr.1).2 ⟨_, List.mem_of_getElem? hei, .inl rfl⟩
          have hta := (HUP.out.2 (es.getD i noEg).pr.2).2 ⟨_, List.mem_of_getElem? hei, .inr rfl⟩
          obtain ⟨aa, haa, ea⟩ := List.getElem_of_mem hfa
          obtain ⟨bb, hbb, ebb⟩ := List.getElem_of_mem hta
          have hA : ts[aa]? = some (es.getD i noEg).f := by rw [List.getElem?_eq_getElem haa, ea]; rfl
          have hB : ts[bb]? = some (es.getD i noEg).t := by rw [List.getElem?_eq_getElem hbb, ebb]; rfl
          have HGR2 : Hid (Gri (egs es) ts (i + 1) (bk.set aa (bk.getD aa [] ++ [bb]))) := HGR.out.put HUP.out.1 hei hA hB
          have hak : aa < k := by have := HTK.out; omega
          have hlv : (bk.getD aa []).length ≤ 4500 := by have := HGR.out.few aa; omega
          clear hcs hei hfa hta ea ebb haa hbb
          generalize es.getD i noEg = ed at *
          obtain ⟨ef, et, ey, ebk⟩ := ed
          simp only at h1 h2 h3 h4 hA hB
          have HAA : Hid (ts[aa]? = some ef) := hA
          have HBB : Hid (ts[bb]? = some et) := hB
          obtain ⟨wb, ewb⟩ : ∃ wb, wr.alloc (Obj.cells #[Value.int .u64 ef, .int .u64 et, .int .i64 ey, .int .i64 ebk] 46) = wb := ⟨_, rfl⟩
          have bn : RowKit.Below wr.heap.size wr wb := by rw [← ewb]; exact below_alloc wr _
          have HED0 : Hid (wb.heap[wr.heap.size]? = some (.cells #[.int .u64 ef, .int .u64 et, .int .i64 ey, .int .i64 ebk] 46 (0, 0)) ∧ w.heap.size ≤ wr.heap.size) := ⟨by rw [← ewb]; exact heap_alloc_new wr _, HST0.out.bel.size⟩
          have HST1 : Hid (Gst w wb k g6 tg cT ng ts vs bk) := HST0.out.later bn
          have HWB : Hid (wr.alloc (Obj.cells #[Value.int .u64 ef, .int .u64 et, .int .i64 ey, .int .i64 ebk] 46) = wb) := ewb
          clear ewb bn hA hB
          go_upto_region 13 with fail
          rw [HWB.out]
          clear HWB h1 h2 h3 h4
          generalize wr.heap.size = b8 at *
          have hc0 := HST1.out.bx.c0
          have hc1 := HST1.out.bx.c1
          have he0 := edge_c0 HED0.out.1
          go_wp2_with fail
          clear hc0 hc1 he0
          refine (gplace_at HST1.out.tc.2 (by omega) HST1.out.tc.1 HUP.out.1 HAA.out).mono ?_
          rintro e wn ⟨rfl, bn⟩
          have HST2 : Hid (Gst w wn k g6 tg cT ng ts vs bk) := HST1.out.later bn
          have HED2 : Hid (wn.heap[b8]? = some (.cells #[.int .u64 ef, .int .u64 et, .int .i64 ey, .int .i64 ebk] 46 (0, 0)) ∧ w.heap.size ≤ b8) := ⟨(bn.block b8 (Array.getElem?_eq_some_iff.1 HED0.out.1).1).trans HED0.out.1, HED0.out.2⟩
          clear bn HST1 HED0 HST0
          obtain ⟨lv, elv⟩ : ∃ lv, lv = (bk.getD aa []).length := ⟨_, rfl⟩
          obtain ⟨pv, cv, hev, hvu, hcv⟩ := HST2.out.rws.cell hak
          rw [← elv] at hev hcv hvu hlv
          have HVU : Hid (vs[aa]? = some (.slice pv lv cv) ∧ lv = (bk.getD aa []).length ∧ vs.getD aa nils = .slice pv lv cv) := ⟨hvu, elv, hev⟩
          clear hev hvu elv
          go_wp2_with fail
          have hHeld : (fun W : World => W.cell? ⟨g6, 0, none⟩ = some (.slice (some ⟨tg, 0, none⟩) k cT) ∧ W.cell? ⟨g6, 1, none⟩ = some (.slice (some ⟨ng, 0, none⟩) k k) ∧ W.cell? ⟨ng, aa, none⟩ = some (.slice pv lv cv) ∧ W.cell? ⟨b8, 1, none⟩ = some (.int .u64 et)) wn.drew := ⟨HST2.out.bx.c0, HST2.out.bx.c1, hcv, edge_c1 HED2.out.1⟩
          refine wp_region_noPanic ?_
          refine wp_region_last 15 (fun W : World => W.cell? ⟨g6, 0, none⟩ = some (.slice (some ⟨tg, 0, none⟩) k cT) ∧ W.cell? ⟨g6, 1, none⟩ = some (.slice (some ⟨ng, 0, none⟩) k k) ∧ W.cell? ⟨ng, aa, none⟩ = some (.slice pv lv cv) ∧ W.cell? ⟨b8, 1, none⟩ = some (.int .u64 et)) (by kernel_rfl) ?_
          have HST : Hid (Gst w wn.drew k g6 tg cT ng ts vs bk) := HST2.out.later (below_dr _ _ 1)
          have HED : Hid (wn.drew.heap[b8]? = some (.cells #[.int .u64 ef, .int .u64 et, .int .i64 ey, .int .i64 ebk] 46 (0, 0)) ∧ w.heap.size ≤ b8) := HED2.out
          clear HST2 HED2 hcv
          generalize wn.drew = we at *
          refine wpAnyL_take (i := 0) (v := ?va1) (by simp; rfl) (by kernel_rfl) (by kernel_rfl) (by kernel_rfl) (by kernel_rfl) (fun _ _ _ h => h) (Or.inl ⟨by rfl, ?ya1⟩) hHeld ?ra1
          case ya1 => intro w hSw; clear hSw; go_simp; with_reducible rfl
          simp only [Act.put, List.setIfInBounds_toArray, List.set_cons_zero, List.set_cons_succ]
          refine wpAnyL_take (i := 1) (v := ?va2) (by simp; rfl) (by kernel_rfl) (by kernel_rfl) (by kernel_rfl) (by kernel_rfl) (fun _ _ _ h => h) (Or.inl ⟨by rfl, ?ya2⟩) hHeld ?ra2
          case ya2 => intro w hSw; obtain ⟨z1, z2, z3, z4⟩ := hSw; go_simp; with_reducible rfl
          simp only [Act.put, List.setIfInBounds_toArray, List.set_cons_zero, List.set_cons_succ]
          refine wpAnyL_take (i := 2) (v := ?va3) (by simp; rfl) (by kernel_rfl) (by kernel_rfl) (by kernel_rfl) (by kernel_rfl) (fun _ _ _ h => h) (Or.inl ⟨by rfl, ?ya3⟩) hHeld ?ra3
          case ya3 => intro w hSw; clear hSw; go_simp; with_reducible rfl
          simp only [Act.put, List.setIfInBounds_toArray, List.set_cons_zero, List.set_cons_succ]
          refine wpAnyL_take (i := 3) (v := ?va4) (by simp; rfl) (by kernel_rfl) (by kernel_rfl) (by kernel_rfl) (by kernel_rfl) (fun _ _ _ h => h) (Or.inl ⟨by rfl, ?ya4⟩) hHeld ?ra4
          case ya4 => intro w hSw; clear hSw; go_simp; with_reducible rfl
          simp only [Act.put, List.setIfInBounds_toArray, List.set_cons_zero, List.set_cons_succ]
          refine wpAnyL_take (i := 4) (v := ?va5) (by simp; rfl) (by kernel_rfl) (by kernel_rfl) (by kernel_rfl) (by kernel_rfl) (fun _ _ _ h => h) (Or.inl ⟨by rfl, ?ya5⟩) hHeld ?ra5
          case ya5 => intro w hSw; obtain ⟨z1, z2, z3, z4⟩ := hSw; go_simp; with_reducible rfl
          simp only [Act.put, List.setIfInBounds_toArray, List.set_cons_zero, List.set_cons_succ]
          refine wpAnyL_take (i := 5) (v := ?va6) (by simp; rfl) (by kernel_rfl) (by kernel_rfl) (by kernel_rfl) (by kernel_rfl) (fun _ _ _ h => h) (Or.inl ⟨by rfl, ?ya6⟩) hHeld ?ra6
          case ya6 => intro w hSw; clear hSw; go_simp; with_reducible rfl
          simp only [Act.put, List.setIfInBounds_toArray, List.set_cons_zero, List.set_cons_succ]
          refine wpAnyL_take (i := 6) (v := ?va7) (by simp; rfl) (by kernel_rfl) (by kernel_rfl) (by kernel_rfl) (by kernel_rfl) (fun _ _ _ h => h) (Or.inl ⟨by rfl, ?ya7⟩) hHeld ?ra7
          case ya7 => intro w hSw; clear hSw; go_simp; with_reducible rfl
          simp only [Act.put, List.setIfInBounds_toArray, List.set_cons_zero, List.set_cons_succ]
          refine wpAnyL_take (i := 7) (v := ?va8) (by simp; rfl) (by kernel_rfl) (by kernel_rfl) (by kernel_rfl) (by kernel_rfl) (fun _ _ _ h => h) (Or.inl ⟨by rfl, ?ya8⟩) hHeld ?ra8
          case ya8 => intro w hSw; obtain ⟨z1, z2, z3, z4⟩ := hSw; go_simp; with_reducible rfl
          simp only [Act.put, List.setIfInBounds_toArray, List.set_cons_zero, List.set_cons_succ]
          refine wpAnyL_take (i := 8) (v := ?va9) (by simp; rfl) (by kernel_rfl) (by kernel_rfl) (by kernel_rfl) (by kernel_rfl) (fun _ _ _ h => h) (Or.inl ⟨by rfl, ?ya9⟩) hHeld ?ra9
          case ya9 => intro w hSw; obtain ⟨z1, z2, z3, z4⟩ := hSw; go_simp; with_reducible rfl
          simp only [Act.put, List.setIfInBounds_toArray, List.set_cons_zero, List.set_cons_succ]
          refine wpAnyL_take (i := 9) (v := ?va10) (by simp; rfl) (by kernel_rfl) (by kernel_rfl) (by kernel_rfl) (by kernel_rfl) (fun _ _ _ h => h) (Or.inl ⟨by rfl, ?ya10⟩) hHeld ?ra10
          case ya10 => intro w hSw; clear hSw; go_simp; with_reducible rfl
          simp only [Act.put, List.setIfInBounds_toArray, List.set_cons_zero, List.set_cons_succ]
          refine wpAnyL_take (i := 10) (v := ?va11) (by simp; rfl) (by kernel_rfl) (by kernel_rfl) (by kernel_rfl) (by kernel_rfl) (fun _ _ _ h => h) (Or.inl ⟨by rfl, ?ya11⟩) hHeld ?ra11
          case ya11 => intro w hSw; obtain ⟨z1, z2, z3, z4⟩ := hSw; go_simp; with_reducible rfl
          simp only [Act.put, List.setIfInBounds_toArray, List.set_cons_zero, List.set_cons_succ]
          refine wpAnyL_ready (rs := [11]) (by kernel_rfl) (by simp) ?_
          refine AllReadyL.cons (by simp; rfl) (fun Kc hKc => ?_) AllReadyL.nil
          go_simp
          refine (gplace_at HST.out.tc.2 (by omega) HST.out.tc.1 HUP.out.1 HBB.out).mono ?_
          rintro e wn ⟨rfl, bn⟩
          have HSTn : Hid (Gst w wn k g6 tg cT ng ts vs bk) := HST.out.later bn
          have HEDn : Hid (wn.heap[b8]? = some (.cells #[.int .u64 ef, .int .u64 et, .int .i64 ey, .int .i64 ebk] 46 (0, 0)) ∧ w.heap.size ≤ b8) := ⟨(bn.block b8 (Array.getElem?_eq_some_iff.1 HED.out.1).1).trans HED.out.1, HED.out.2⟩
          have SA : (fun W : World => W.cell? ⟨g6, 0, none⟩ = some (.slice (some ⟨tg, 0, none⟩) k cT) ∧ W.cell? ⟨g6, 1, none⟩ = some (.slice (some ⟨ng, 0, none⟩) k k) ∧ W.cell? ⟨ng, aa, none⟩ = some (.slice pv lv cv) ∧ W.cell? ⟨b8, 1, none⟩ = some (.int .u64 et)) wn := ⟨HSTn.out.bx.c0, HSTn.out.bx.c1, O.own_cell HSTn.out.rws.top HVU.out.1, edge_c1 HEDn.out.1⟩
          clear HST HED bn
          have HST := HSTn
          have HED := HEDn
          clear HSTn HEDn
          refine hKc.out _ _ (fun _ => SA) ?_
          clear hHeld hKc Kc
          have hHeld := SA
          clear SA
          generalize wn = we at *
          try simp only [Act.put, List.setIfInBounds_toArray, List.set_cons_zero, List.set_cons_succ]

          refine wpAnyL_ready (rs := [12]) (by kernel_rfl) (by simp) ?_
          refine AllReadyL.cons (by simp; rfl) (fun Kc hKc => ?_) AllReadyL.nil
          go_simp
          have SA : (fun W : World => W.cell? ⟨g6, 0, none⟩ = some (.slice (some ⟨tg, 0, none⟩) k cT) ∧ W.cell? ⟨g6, 1, none⟩ = some (.slice (some ⟨ng, 0, none⟩) k k) ∧ W.cell? ⟨ng, aa, none⟩ = some (.slice pv lv cv) ∧ W.cell? ⟨b8, 1, none⟩ = some (.int .u64 et)) (we.alloc (Obj.cells #[Value.int .i64 (bb : Int)] 3)) := ⟨(HST.out.bx.later (below_alloc we _)).c0, (HST.out.bx.later (below_alloc we _)).c1, O.own_cell (O.own_later HST.out.rws.top (below_alloc we _)) HVU.out.1, edge_c1 (((below_alloc we _).block b8 (Array.getElem?_eq_some_iff.1 HED.out.1).1).trans HED.out.1)⟩
          refine hKc.out _ _ (fun _ => SA) ?_
          clear hHeld hKc Kc
          have hHeld := SA
          clear SA

          refine wpAnyL_ready (rs := [13]) (by kernel_rfl) (by simp) ?_
          refine AllReadyL.cons (by simp; rfl) (fun Kc hKc => ?_) AllReadyL.nil
          have HOW : Hid ((we.alloc (Obj.cells #[Value.int .i64 (bb : Int)] 3)).ownsRow w.heap.size 3 1 (.slice pv lv cv) lv (I64 (nz (bk.getD aa [])))) := by
            have := O.own_later (HST.out.rws.row aa hak) (below_alloc we (Obj.cells #[Value.int .i64 (bb : Int)] 3))
            rw [HVU.out.2.2, ← HVU.out.2.1] at this
            exact this
          refine O.step_own_any (v := .slice pv lv cv) (u := .slice (some ⟨we.heap.size, 0, none⟩) 1 1) (n := lv) (m := 1) (base := w.heap.size) (base' := 0) rfl (.tmp 57) (.tmp 62) O.elI rfl rfl HOW.out rfl (O.own_one (base := 0) (e := 3) (size := 1) (cs := [Value.int .i64 (bb : Int)]) we rfl (Nat.zero_le _)) (O.one_one rfl) (by omega) (by have := HST.out.bel.size; simp; omega) ?_
          intro v' w' ho hk hv
          obtain ⟨hx1, hx2, hx3, hx4⟩ := HST.out.noted (a := aa) (x := bb) (v' := v') (w' := w') hak (by rw [← HVU.out.2.1]; exact ho) (by rw [HVU.out.2.2]; exact hk) (by rw [HVU.out.2.2]; exact hv)
          have HS3 : Hid (Gst w (w'.setCell ⟨ng, aa, none⟩ v') k g6 tg cT ng ts (vs.set aa v') (bk.set aa (bk.getD aa [] ++ [bb]))) := hx3
          have hcv3 : w'.cell? ⟨ng, aa, none⟩ = some (.slice pv lv cv) := O.own_cell hx2 HVU.out.1
          have hfv3 : w'.frozen? ⟨ng, aa, none⟩ = false := O.own_free hx2 aa
          have SA : (fun W : World => W.cell? ⟨g6, 0, none⟩ = some (.slice (some ⟨tg, 0, none⟩) k cT) ∧ W.cell? ⟨g6, 1, none⟩ = some (.slice (some ⟨ng, 0, none⟩) k k) ∧ W.cell? ⟨ng, aa, none⟩ = some (.slice pv lv cv) ∧ W.cell? ⟨b8, 1, none⟩ = some (.int .u64 et)) w' := ⟨hx1.c0, hx1.c1, hcv3, edge_c1 (hx4 b8 _ HED.out.1)⟩
          obtain ⟨p', c', rfl⟩ := O.own_shape ho
          refine hKc.out _ _ (fun _ => SA) ?_
          clear hHeld hKc Kc ho hk hv hx1 hx2 hx3 hx4 HOW HST HED
          have hHeld := SA
          clear SA
          try simp only [Act.put, List.setIfInBounds_toArray, List.set_cons_zero, List.set_cons_succ]

          refine wpAnyL_take (i := 14) (v := ?va12) (by simp; rfl) (by kernel_rfl) (by kernel_rfl) (by kernel_rfl) (by kernel_rfl) (fun _ _ _ h => h) (Or.inl ⟨by rfl, ?ya12⟩) hHeld ?ra12
          case ya12 => intro w hSw; clear hSw; go_simp; with_reducible rfl
          simp only [Act.put, List.setIfInBounds_toArray, List.set_cons_zero, List.set_cons_succ]
          refine wpAnyL_ready (rs := [15]) (by kernel_rfl) (by simp) ?_
          refine AllReadyL.cons (by simp; rfl) (fun Kc hKc => ?_) AllReadyL.nil
          go_simp
          refine hKc.out _ _ (fun h => absurd rfl h) ?_
          clear hHeld hKc Kc

          refine wpAnyL_done (by kernel_rfl) (NoPanic.normal ?_) _
          go_wp2_with fail
          go_roundw
          case rel => exact ⟨i + 1, _, _, rfl, by omega, HS3, HGR2⟩
          case measure => simp [intV]; omega

        · have HGS0 : Hid (Grs (egs es) ts 0 bk) := by
            have := HGR.out
            rw [show i = (egs es).length by have := HL.out; simp [egs]; omega] at this
            exact this.done
          have hc1 := HST0.out.bx.c1
          clear HGR HGR0 HS0
          go_wp2_with fail
          clear hc1
          go_loopw [69] (fun v W => ∃ (i : Nat) (vs : List Value) (bk : List (List Nat)), v = .int .i64 (i : Int) ∧ i ≤ k ∧ Hid (Gst w W k g6 tg cT ng ts vs bk) ∧ Hid (Grs (egs es) ts i bk)) (fun v _ => k - (intV v).toNat)
          case atStart => exact ⟨0, _, _, rfl, by omega, HST0, HGS0⟩
          case round =>
            clear HST0 HGS0
            obtain ⟨i, vs, bk, rfl, hij, HST, HGS⟩ := hrel
            by_cases hik : i < k
            · obtain ⟨lv, elv⟩ : ∃ lv, lv = (bk.getD i []).length := ⟨_, rfl⟩
              have hl9 : lv ≤ 9000 := by
                have := HGS.out.few i
                have := HL.out
                simp only [egs, List.length_map] at *
                omega
              obtain ⟨pv, cv, hev, hvu, hcv⟩ := HST.out.rws.cell hik
              have hrow := HST.out.rws.row i hik
              rw [hev, ← elv] at hrow
              rw [← elv] at hev hcv hvu
              have HVU : Hid (vs[i]? = some (.slice pv lv cv) ∧ lv = (bk.getD i []).length ∧ vs.getD i nils = .slice pv lv cv) := ⟨hvu, elv, hev⟩
              have HR0 : Hid (wr.ownsRow w.heap.size 3 1 (.slice pv lv cv) lv (I64 (nz (bk.getD i [])))) := hrow
              clear hev hvu elv hrow
              go_wp2_with fail
              refine (sortI_own HR0.out (by omega)).mono ?_
              rintro e w1 ⟨rfl, hk1, ho1⟩
              have hbx1 := HST.out.bx.far hk1 fun hc => O.own_not HR0.out HST.out.bx (by decide) hc
              have HK0 : Hid (Kept (fun b => (Value.slice pv lv cv).ownBlock = some b) wr w1) := hk1
              have HRS : Hid (w1.ownsRow w.heap.size 3 1 (.slice pv lv cv) lv (I64 (srt (nz (bk.getD i []))))) := ho1
              clear hk1 ho1 hcv HR0
              go_wp2_with fail
              refine wp_region_noPanic ?_
              refine wp_region_held_drew (S := (fun W : World => W.cell? ⟨g6, 1, none⟩ = some (.slice (some ⟨ng, 0, none⟩) k k))) (by kernel_rfl) hbx1.c1 (fun hHeld => ?_)
              have HK1 : Hid (Kept (fun b => (Value.slice pv lv cv).ownBlock = some b) wr w1.drew) := HK0.out.trans (Kept.of_below _ (below_dr _ _ 1)) fun _ _ h => h
              have HRW : Hid (w1.drew.ownsRow w.heap.size 3 1 (.slice pv lv cv) lv (I64 (srt (nz (bk.getD i []))))) := O.own_later HRS.out (below_dr _ _ 1)
              clear HK0 HRS hbx1
              generalize w1.drew = we at *
              refine wpAnyH_take (i := 0) (v := ?va13) (by simp; rfl) (by kernel_rfl) (by kernel_rfl) (by kernel_rfl) (fun _ _ _ h => h) (Or.inl ⟨by rfl, ?ya13⟩) hHeld ?ra13
              case ya13 => intro w hSw; clear hSw; go_simp; with_reducible rfl
              simp only [Act.put, List.setIfInBounds_toArray, List.set_cons_zero, List.set_cons_succ]
              refine wpAnyH_take (i := 1) (v := ?va14) (by simp; rfl) (by kernel_rfl) (by kernel_rfl) (by kernel_rfl) (fun _ _ _ h => h) (Or.inl ⟨by rfl, ?ya14⟩) hHeld ?ra14
              case ya14 => intro w hSw; go_simp; with_reducible rfl
              simp only [Act.put, List.setIfInBounds_toArray, List.set_cons_zero, List.set_cons_succ]
              refine wpAnyH_take (i := 2) (v := ?va15) (by simp; rfl) (by kernel_rfl) (by kernel_rfl) (by kernel_rfl) (fun _ _ _ h => h) (Or.inl ⟨by rfl, ?ya15⟩) hHeld ?ra15
              case ya15 => intro w hSw; clear hSw; go_simp; with_reducible rfl
              simp only [Act.put, List.setIfInBounds_toArray, List.set_cons_zero, List.set_cons_succ]
              refine wpAnyH_take (i := 3) (v := ?va16) (by simp; rfl) (by kernel_rfl) (by kernel_rfl) (by kernel_rfl) (fun _ _ _ h => h) (Or.inl ⟨by rfl, ?ya16⟩) hHeld ?ra16
              case ya16 => intro w hSw; clear hSw; go_simp; with_reducible rfl
              simp only [Act.put, List.setIfInBounds_toArray, List.set_cons_zero, List.set_cons_succ]
              refine wpAnyH_ready (rs := [4]) (by kernel_rfl) (by simp) ?_
              refine AllReadyH.cons (by simp; rfl) (fun Kc hKc => ?_) AllReadyH.nil
              go_simp
              refine (compactI_own HRW.out (by omega)).mono ?_
              rintro e w2 ⟨rfl, hk2, ho2⟩
              have hK : Kept (fun b => (vs.getD i nils).ownBlock = some b) wr w2 := by
                rw [HVU.out.2.2]
                exact HK1.out.trans hk2 fun _ _ h => h
              have hdf := difN_is (bk.getD i [])
              rw [← hdf.1, nz_length] at ho2
              have hlen : (Lib.compact (srt (nz (bk.getD i [])))).length = (difN (bk.getD i [])).length := by rw [← hdf.1, nz_length]
              obtain ⟨hx1, hx2, hx3⟩ := HST.out.tidied (i := i) (row := difN (bk.getD i [])) hik hK ho2 (fun b hb => .inl (by rw [HVU.out.2.2, ownBlock_len (m := (difN (bk.getD i [])).length)]; exact hb))
              have HS3 : Hid (Gst w (w2.setCell ⟨ng, i, none⟩ (.slice pv (difN (bk.getD i [])).length cv)) k g6 tg cT ng ts (vs.set i (.slice pv (difN (bk.getD i [])).length cv)) (bk.set i (difN (bk.getD i [])))) := hx3
              have HGS3 : Hid (Grs (egs es) ts (i + 1) (bk.set i (difN (bk.getD i [])))) := HGS.out.put (by have := HTK.out; omega) hdf.2.1 hdf.2.2.1 hdf.2.2.2
              have hcv3 : w2.cell? ⟨ng, i, none⟩ = some (.slice pv lv cv) := O.own_cell hx2 HVU.out.1
              have hfv3 : w2.frozen? ⟨ng, i, none⟩ = false := O.own_free hx2 i
              rw [hlen]
              refine hKc.out _ _ hx1.c1 (fun hHeld => ?_)
              clear hKc Kc hK hdf ho2 hk2 hlen hx1 hx2 hx3 HST HGS HK1 HRW
              generalize (difN (bk.getD i [])).length = ln at *
              try simp only [Act.put, List.setIfInBounds_toArray, List.set_cons_zero, List.set_cons_succ]

              refine wpAnyH_take (i := 5) (v := ?va17) (by simp; rfl) (by kernel_rfl) (by kernel_rfl) (by kernel_rfl) (fun _ _ _ h => h) (Or.inl ⟨by rfl, ?ya17⟩) hHeld ?ra17
              case ya17 => intro w hSw; clear hSw; go_simp; with_reducible rfl
              simp only [Act.put, List.setIfInBounds_toArray, List.set_cons_zero, List.set_cons_succ]
              refine wpAnyH_ready (rs := [6]) (by kernel_rfl) (by simp) ?_
              refine AllReadyH.cons (by simp; rfl) (fun Kc hKc => ?_) AllReadyH.nil
              go_simp
              refine hKc.out _ _ HS3.out.bx.c1 (fun hHeld => ?_)
              clear hKc Kc

              refine wpAnyH_done (by kernel_rfl) (NoPanic.normal ?_) _
              clear hHeld hcv3 hfv3
              go_wp2_with fail
              go_roundw
              case rel => exact ⟨i + 1, _, _, rfl, by omega, HS3, HGS3⟩
              case measure => simp [intV]; omega

            · have HGI : Hid (GIs (egs es) ts bk) := by
                have := HGS.out
                rw [show i = ts.length by have := HTK.out; omega] at this
                exact this.done HUP.out.1 HUP.out.2
              have hc0 := HST.out.bx.c0
              have hc1 := HST.out.bx.c1
              have d0 := HST.out.res.c0
              have d1 := HST.out.res.c1
              have f0 := HST.out.res.f0 0
              have f1 := HST.out.res.f0 1
              have HW : Hid (Kept (· = w.heap.size) wr ((wr.setCell ⟨w.heap.size, 0, none⟩ (Value.slice (some ⟨tg, 0, none⟩) k cT)).setCell ⟨w.heap.size, 1, none⟩ (Value.slice (some ⟨ng, 0, none⟩) k k))) := kept_two _ _ _
              have HBX : Hid (GBx ((wr.setCell ⟨w.heap.size, 0, none⟩ (Value.slice (some ⟨tg, 0, none⟩) k cT)).setCell ⟨w.heap.size, 1, none⟩ (Value.slice (some ⟨ng, 0, none⟩) k k)) w.heap.size (Value.slice (some ⟨tg, 0, none⟩) k cT) (Value.slice (some ⟨ng, 0, none⟩) k k)) := HST.out.res.put _ _
              have HFIN : Hid (∀ w', w' = ((wr.setCell ⟨w.heap.size, 0, none⟩ (Value.slice (some ⟨tg, 0, none⟩) k cT)).setCell ⟨w.heap.size, 1, none⟩ (Value.slice (some ⟨ng, 0, none⟩) k k)) → RowKit.Below w.heap.size w w' ∧ w'.ownsRow w.heap.size 44 1 (.slice (some ⟨tg, 0, none⟩) k cT) k (U64 ts) ∧ NIn (fun k => w.heap.size ≤ k ∧ k < w'.heap.size) w' (.slice (some ⟨ng, 0, none⟩) k k) bk) := by
                intro w' e
                rw [← e] at HW
                refine ⟨HW.out.into HST.out.bel (fun b hb e => by omega) (Nat.le_refl _), O.own_far HST.out.tk HW.out fun b hb e => O.own_not HST.out.tk HST.out.res (by decide) (by rw [← e]; exact hb), ?_⟩
                have h1 : Rws w' w.heap.size ng k vs bk := { HST.out.rws with
                  top := O.own_far HST.out.rws.top HW.out fun b hb e => O.own_not HST.out.rws.top HST.out.res (by decide) (by rw [← e]; exact hb)
                  row := fun i hi => O.own_far (HST.out.rws.row i hi) HW.out fun b hb e => O.own_not (HST.out.rws.row i hi) HST.out.res (by decide) (by rw [← e]; exact hb) }
                exact h1.nin
              clear HST HGS
              clear HW
              go_wp2_with fail
              have HF := HFIN.out _ rfl
              generalize ((wr.setCell ⟨w.heap.size, 0, none⟩ (Value.slice (some ⟨tg, 0, none⟩) k cT)).setCell ⟨w.heap.size, 1, none⟩ (Value.slice (some ⟨ng, 0, none⟩) k k)) = wf at *
              (try simp only [Exit.inBlock, Exit.then])
              refine bodyPost_ret (results_cell_row (p := 2) (ty := 70) rfl _ _ w.heap.size 70 #[.slice (some ⟨tg, 0, none⟩) k cT, .slice (some ⟨ng, 0, none⟩) k k] (0, 0) _ (by rfl) HBX.out Tryz.underlying70 rfl rfl) rfl ?_
              have hk := HTK.out
              subst hk
              exact ⟨tg, cT, ng, ts, bk, rfl, HF.1, HGI.out, by omega, HF.2.1, HF.2.2⟩
end Go.Proofs.YtkgjmejpbklabaaGreat
namespace Go.Proofs.YtkgjmejpbklabaaGreat
open Go.RowKit
open B (IIn I64)
/-- what is known where the ring is sought -/
structure Rst (w W : World) (k b3 tg cT ng : Nat) (ts : List Int) (nx : List (List Nat)) : Prop where
  bel : RowKit.Below w.heap.size w W
  bx : GBx W b3 (.slice (some ⟨tg, 0, none⟩) k cT) (.slice (some ⟨ng, 0, none⟩) k k)
  tk : W.ownsRow w.heap.size 44 1 (.slice (some ⟨tg, 0, none⟩) k cT) k (U64 ts)
  nin : NIn (fun b => w.heap.size ≤ b ∧ b < b3) W (.slice (some ⟨ng, 0, none⟩) k k) nx
theorem Rst.later {w W W' : World} {k b3 tg cT ng : Nat} {ts : List Int} {nx : List (List Nat)} (h : Rst w W k b3 tg cT ng ts nx) (hb : RowKit.Below W.heap.size W W') : Rst w W' k b3 tg cT ng ts nx where
  bel := below_then h.bel hb
  bx := h.bx.later hb
  tk := O.own_later h.tk hb
  nin := h.nin.later hb
theorem GIs.len2 {es : List (Int × Int)} {ts : List Int} {nx : List (List Nat)} (h : GIs es ts nx) {k : Nat} (hk : ts.length = k) : nx.length = k ∧ (∀ i v, v ∈ nx.getD i [] → v < k) ∧ (∀ i, (nx.getD i []).Nodup) ∧ (k ≤ 9000 → ∀ i, (nx.getD i []).length ≤ 9000) := by
  have h1 : ∀ i v, v ∈ nx.getD i [] → v < k := fun i v hv => by have := (h.lt (u := i) (v := v) hv).2; omega
  refine ⟨h.len.trans hk, h1, fun i => up_nodup (h.row i), fun h9 i => ?_⟩
  have := nodup_lt (n := k) (up_nodup (h.row i)) fun v hv => h1 i v hv
  omega
theorem leastOnRing_two {S : Nat → Prop} {w : World} {tp : Option Addr} {tn tc : Nat} {nv : Value} {nx : List (List Nat)} {n : Nat} (hn : nx.length = n) (hz : n ≤ 9000) (hNX : NIn S w nv nx) (hwf : ∀ i v, v ∈ nx.getD i [] → v < n) (hnd : ∀ i, (nx.getD i []).Nodup)
    {p : Option Addr} {c M : Nat} {o : List Nat} (hM : o.length = M) (hO : IIn w p M (nz o)) (hs : Stl (Ed nx) n o) :
    Calls Tryz.prog 24 #[.agg #[.slice tp tn tc, nv], .slice p M c] w fun e w' => RowKit.Below w.heap.size w w' ∧ ∃ (m : Nat) (b : Bool), e = .returned (.tuple #[.int .i64 (m : Int), .bool b]) ∧ ((b = false ∧ ∀ x, ¬ OnR (Ed nx) x) ∨ (b = true ∧ m < n ∧ OnR (Ed nx) m ∧ ∀ x, OnR (Ed nx) x → m ≤ x)) := by
  refine (leastOnRing_at hn hz hNX hwf hnd hM hO hs).mono ?_
  rintro e w' ⟨h1, ⟨rfl, h2⟩ | ⟨m, rfl, h2⟩⟩
  · exact ⟨h1, 0, false, rfl, .inl ⟨rfl, h2⟩⟩
  · exact ⟨h1, m, true, rfl, .inr ⟨rfl, h2⟩⟩
/-- the tickets of some places -/
def tks (ts : List Int) (l : List Nat) : List Int := l.map fun x => ts.getD x 0
set_option maxHeartbeats 2000000 in
set_option maxRecDepth 100000 in
theorem ring_at {w : World} {p : Option Addr} {n c : Nat} {es : List Eg} (hE : EIn w p n es) (hz : n ≤ 4500) :
    Calls Tryz.prog 10 #[.slice p n c] w fun e w' => ∃ (q : Option Addr) (cq : Nat) (l : List Nat) (ts : List Int) (nx : List (List Nat)), e = .returned (.slice q l.length cq) ∧ w'.ownsRow w.heap.size 44 1 (.slice q l.length cq) l.length (U64 (tks ts l)) ∧ RowKit.Below w.heap.size w w' ∧ GIs (egs es) ts nx ∧ RingIs (Ed nx) l := by
  go_enter Tryz.func10, Tryz.ntmps10
  go_wp2_with fail
  refine (graphOf_at hE hz).mono ?_
  rintro e w1 ⟨tg, cT, ng, ts, nx, rfl, hb1, hGI, hk9, hT1, hN1⟩
  obtain ⟨k, hk⟩ : ∃ k, ts.length = k := ⟨_, rfl⟩
  rw [hk] at hT1 hN1 hk9 ⊢
  have HGI : Hid (GIs (egs es) ts nx) := hGI
  have HK : Hid (ts.length = k) := hk
  have HGL : Hid (nx.length = k ∧ (∀ i v, v ∈ nx.getD i [] → v < k) ∧ (∀ i, (nx.getD i []).Nodup) ∧ (k ≤ 9000 → ∀ i, (nx.getD i []).length ≤ 9000)) := hGI.len2 hk
  have HST0 : Hid (Rst w (w1.alloc (Obj.cells #[Value.slice (some ⟨tg, 0, none⟩) k cT, Value.slice (some ⟨ng, 0, none⟩) k k] 70)) k w1.heap.size tg cT ng ts nx) := {
    bel := below_then hb1 (below_alloc _ _)
    bx := GBx.new w1 _ _
    tk := O.own_later hT1 (below_alloc _ _)
    nin := hN1.later (below_alloc _ _) }
  clear hb1 hGI hT1 hN1 hk hE
  go_upto_region 2 with fail
  generalize w1.alloc (Obj.cells #[Value.slice (some ⟨tg, 0, none⟩) k cT, Value.slice (some ⟨ng, 0, none⟩) k k] 70) = W1 at HST0 ⊢
  generalize w1.heap.size = b3 at *
  refine wp_region_noPanic ?_
  refine wp_region_held_drew (S := (fun W : World => W.cell? ⟨b3, 0, none⟩ = some (.slice (some ⟨tg, 0, none⟩) k cT) ∧ W.cell? ⟨b3, 1, none⟩ = some (.slice (some ⟨ng, 0, none⟩) k k))) (by kernel_rfl) ⟨HST0.out.bx.c0, HST0.out.bx.c1⟩ (fun hHeld => ?_)
  have HST : Hid (Rst w W1.drew k b3 tg cT ng ts nx) := HST0.out.later (below_dr _ _ 1)
  clear HST0
  generalize W1.drew = we at *
  refine wpAnyH_take (i := 0) (v := ?va1) (by simp; rfl) (by kernel_rfl) (by kernel_rfl) (by kernel_rfl) (fun _ _ _ h => h) (Or.inl ⟨by rfl, ?ya1⟩) hHeld ?ra1
  case ya1 => intro w hSw; obtain ⟨z1, z2⟩ := hSw; go_simp; with_reducible rfl
  simp only [Act.put, List.setIfInBounds_toArray, List.set_cons_zero, List.set_cons_succ]
  refine wpAnyH_take (i := 1) (v := ?va2) (by simp; rfl) (by kernel_rfl) (by kernel_rfl) (by kernel_rfl) (fun _ _ _ h => h) (Or.inl ⟨by rfl, ?ya2⟩) hHeld ?ra2
  case ya2 => intro w hSw; obtain ⟨z1, z2⟩ := hSw; go_simp; with_reducible rfl
  simp only [Act.put, List.setIfInBounds_toArray, List.set_cons_zero, List.set_cons_succ]
  refine wpAnyH_ready (rs := [2]) (by kernel_rfl) (by simp) ?_
  refine AllReadyH.cons (by simp; rfl) (fun Kc hKc => ?_) AllReadyH.nil
  go_simp
  refine (settled_at HGL.out.1 hk9 HST.out.nin HGL.out.2.1 (HGL.out.2.2.2 hk9)).mono ?_
  rintro e wn ⟨po, co, o, rfl, hOr, bn, hStl⟩
  have HSTn : Hid (Rst w wn k b3 tg cT ng ts nx) := HST.out.later bn
  clear HST
  have HST := HSTn
  clear HSTn
  have HSL : Hid (Stl (Ed nx) k o) := hStl
  have HOI : Hid (IIn wn po o.length (nz o)) := own_iin hOr
  clear hStl hOr bn
  refine hKc.out _ _ ⟨HST.out.bx.c0, HST.out.bx.c1⟩ (fun hHeld => ?_)
  clear hKc Kc
  generalize wn = we at *
  try simp only [Act.put, List.setIfInBounds_toArray, List.set_cons_zero, List.set_cons_succ]

  refine wpAnyH_ready (rs := [3]) (by kernel_rfl) (by simp) ?_
  refine AllReadyH.cons (by simp; rfl) (fun Kc hKc => ?_) AllReadyH.nil
  go_simp
  refine (leastOnRing_two HGL.out.1 hk9 HST.out.nin HGL.out.2.1 HGL.out.2.2.1 rfl HOI.out HSL.out).mono ?_
  rintro e wn ⟨bn, m, bb, rfl, hM⟩
  have HSTn : Hid (Rst w wn k b3 tg cT ng ts nx) := HST.out.later bn
  clear HST
  have HST := HSTn
  clear HSTn
  have HM : Hid ((bb = false ∧ ∀ x, ¬ OnR (Ed nx) x) ∨ (bb = true ∧ m < k ∧ OnR (Ed nx) m ∧ ∀ x, OnR (Ed nx) x → m ≤ x)) := hM
  clear hM bn HOI
  refine hKc.out _ _ ⟨HST.out.bx.c0, HST.out.bx.c1⟩ (fun hHeld => ?_)
  clear hKc Kc
  generalize wn = we at *
  try simp only [Act.put, List.setIfInBounds_toArray, List.set_cons_zero, List.set_cons_succ]

  refine wpAnyH_take (i := 4) (v := ?va3) (by simp; rfl) (by kernel_rfl) (by kernel_rfl) (by kernel_rfl) (fun _ _ _ h => h) (Or.inl ⟨by rfl, ?ya3⟩) hHeld ?ra3
  case ya3 => intro w hSw; clear hSw; go_simp; with_reducible rfl
  simp only [Act.put, List.setIfInBounds_toArray, List.set_cons_zero, List.set_cons_succ]
  refine wpAnyH_take (i := 5) (v := ?va4) (by simp; rfl) (by kernel_rfl) (by kernel_rfl) (by kernel_rfl) (fun _ _ _ h => h) (Or.inl ⟨by rfl, ?ya4⟩) hHeld ?ra4
  case ya4 => intro w hSw; clear hSw; go_simp; with_reducible rfl
  simp only [Act.put, List.setIfInBounds_toArray, List.set_cons_zero, List.set_cons_succ]
  refine wpAnyH_take (i := 6) (v := ?va5) (by simp; rfl) (by kernel_rfl) (by kernel_rfl) (by kernel_rfl) (fun _ _ _ h => h) (Or.inl ⟨by rfl, ?ya5⟩) hHeld ?ra5
  case ya5 => intro w hSw; clear hSw; go_simp; with_reducible rfl
  simp only [Act.put, List.setIfInBounds_toArray, List.set_cons_zero, List.set_cons_succ]
  refine wpAnyH_take (i := 7) (v := ?va6) (by simp; rfl) (by kernel_rfl) (by kernel_rfl) (by kernel_rfl) (fun _ _ _ h => h) (Or.inl ⟨by rfl, ?ya6⟩) hHeld ?ra6
  case ya6 => intro w hSw; clear hSw; go_simp; with_reducible rfl
  simp only [Act.put, List.setIfInBounds_toArray, List.set_cons_zero, List.set_cons_succ]
  refine wpAnyH_take (i := 8) (v := ?va7) (by simp; rfl) (by kernel_rfl) (by kernel_rfl) (by kernel_rfl) (fun _ _ _ h => h) (Or.inl ⟨by rfl, ?ya7⟩) hHeld ?ra7
  case ya7 => intro w hSw; clear hSw; go_simp; with_reducible rfl
  simp only [Act.put, List.setIfInBounds_toArray, List.set_cons_zero, List.set_cons_succ]
  refine wpAnyH_done (by kernel_rfl) (NoPanic.normal ?_) _
  clear hHeld

  cases bb with
  | false =>
    have HN : Hid (∀ x, ¬ OnR (Ed nx) x) := by
      rcases HM.out with h | h
      · exact h.2
      · cases h.1
    clear HM
    go_wp2_with fail
    go_ret
    exact ⟨none, 0, [], ts, nx, rfl, World.ownsRow_nil _ _ _ _, HST.out.bel, HGI.out, .inl ⟨rfl, HN.out⟩⟩
  | true =>
    have HN : Hid (m < k ∧ OnR (Ed nx) m ∧ ∀ x, OnR (Ed nx) x → m ≤ x) := by
      rcases HM.out with h | h
      · cases h.1
      · exact h.2
    clear HM
    have hc0 := HST.out.bx.c0
    have hc1 := HST.out.bx.c1
    go_wp2_with fail
    clear hc0 hc1
    refine (unreached_at hk9).mono ?_
    rintro e w2 ⟨gf, rfl, bn, hF2⟩
    have HST2 : Hid (Rst w w2 k b3 tg cT ng ts nx) := HST.out.later bn
    have HF2 : Hid (w2.ownsRow w.heap.size 3 1 (.slice (some ⟨gf, 0, none⟩) k k) k (I64 (nz (List.replicate k NW)))) := B.own_mono hF2 HST.out.bel.size
    have hgb : b3 < gf := by have := (hF2.lt gf rfl).1; have := HST.out.bx.lt; omega
    clear hF2 bn HST
    have hc0 := HST2.out.bx.c0
    have hc1 := HST2.out.bx.c1
    go_wp2_with fail
    clear hc0 hc1
    refine (turned_at HGL.out.1 hk9 HST2.out.nin HGL.out.2.1 HGL.out.2.2.1).mono ?_
    rintro e w3 ⟨nvb, bk, rfl, hT3, hN3, bn⟩
    have HST3 : Hid (Rst w w3 k b3 tg cT ng ts nx) := HST2.out.later bn
    have HF3 : Hid (w3.ownsRow w.heap.size 3 1 (.slice (some ⟨gf, 0, none⟩) k k) k (I64 (nz (List.replicate k NW)))) := O.own_later HF2.out bn
    have HTD : Hid (Tnd nx bk) := hT3
    have hbk : bk.length = k := hT3.1.trans HGL.out.1
    have hgf : gf < w2.heap.size := (HF2.out.lt gf rfl).2
    have hwfb : ∀ i v, v ∈ bk.getD i [] → v < k := fun i v hv => by
      have := ((hT3.2.1 v i).1 hv).lt
      have := HGL.out.1
      omega
    have hrlb : ∀ i, (bk.getD i []).length ≤ 9000 := fun i => by
      have := nodup_lt (n := k) (hT3.2.2 i) fun v hv => hwfb i v hv
      omega
    have HCL : Hid _ := flood_at (tv := .slice (some ⟨tg, 0, none⟩) k cT) hbk hk9 hN3 hwfb hrlb HF3.out (fun h => by omega) HN.out.1 (fg_rep _ _)
    clear hT3 hN3 bn HST2 HF2 hbk hgf hwfb hrlb
    go_wp2_with fail
    refine Calls.mono HCL.out ?_
    rintro e w4 ⟨pq, cq, q, f, rfl, hq, hF4, hk4, hFl⟩
    clear HCL hq
    have HST4 : Hid (Rst w w4 k b3 tg cT ng ts nx) := {
      bel := hk4.into HST3.out.bel (fun b hb e => by have := HST3.out.bx.lt; have := (HF3.out.lt gf rfl).1; omega) (Nat.le_refl _)
      bx := HST3.out.bx.far hk4 (by omega)
      tk := O.own_far HST3.out.tk hk4 fun b hb e => O.own_ne HST3.out.tk HF3.out (by decide) hb (by rw [e]; rfl)
      nin := HST3.out.nin.far hk4 fun b hb e => by omega }
    have HF4 : Hid (w4.ownsRow w.heap.size 3 1 (.slice (some ⟨gf, 0, none⟩) k k) k (I64 (nz f))) := hF4
    have hFl' : Flo bk (List.replicate nx.length NW) m q f := by rw [HGL.out.1]; exact hFl
    have HDI : Hid (Dis (Ed nx) m f) := hFl'.dis HTD.out (by rw [HGL.out.1]; unfold NW; omega)
    have HDL : Hid (∀ x, fg f x ≠ NW → fg f x < k) := fun x hx => by
      by_cases hq : x ∈ q
      · have := hFl.lt x hq; rw [HTD.out.1, HGL.out.1] at this; exact this
      · exact absurd ((hFl.fr x hq).trans (fg_rep _ _)) hx
    obtain ⟨L, hL⟩ := HN.out.2.1.cyc
    have hRat := hL.rat
    have hLk : L ≤ k := by
      obtain ⟨h0, ⟨y, h1, h2⟩, h3⟩ := hRat
      have h4 := (HDI.out y).1 _ h2
      have h5 := (HDI.out y).2 (by have := h4.2; omega)
      have h6 := h3 y _ h1 h5
      have h7 := HDL.out y (by have := h4.2; omega)
      omega
    have HR0 : Hid (Rat (Ed nx) m L m ∧ Told (Ed nx) m L L m []) := ⟨hRat, Told.start⟩
    have HCY : Hid (Cyc (Ed nx) m L) := hL
    clear hF4 hk4 hFl hFl' HF3 HST3 HTD hL hRat
    have hmk := HN.out.1
    go_wp2_with fail
    go_loopg [7, 8] L (fun rem v7 v8 W => ∃ (p7 : Option Addr) (c7 x : Nat) (out : List Nat), v7 = .slice p7 out.length c7 ∧ v8 = .int .i64 (x : Int) ∧ x < k ∧ out.length + rem = L ∧ Hid (RowKit.Below w4.heap.size w4 W) ∧ Hid (W.ownsRow w4.heap.size 44 1 (.slice p7 out.length c7) out.length (U64 (tks ts out))) ∧ Hid (Rat (Ed nx) m rem x ∧ Told (Ed nx) m L rem x out))
    case atStart => exact ⟨none, 0, m, [], rfl, rfl, hmk, by simp, RowKit.Below.refl _ _, World.ownsRow_nil _ _ _ _, HR0⟩
    case round =>
      obtain ⟨p7, c7, x, out, rfl, rfl, hxk, hol, HBr, HOr, HRT⟩ := hrel
      have hr0 : 0 < gk := HRT.out.1.1
      have HSTr : Hid (Rst w wr k b3 tg cT ng ts nx) := HST4.out.later HBr.out
      have hc0 := HSTr.out.bx.c0
      have hct : wr.cell? ⟨tg, x, none⟩ = some (.int .u64 (ts.getD x 0)) := O.own_cell HSTr.out.tk (U64_get (by have := HK.out; omega))
      have HSZ : Hid (w4.heap.size ≤ wr.heap.size) := HBr.out.size
      have HTX : Hid (U64 (tks ts out) ++ [.int .u64 (ts.getD x 0)] = U64 (tks ts (out ++ [x]))) := by
        show _ = _
        simp [tks, U64]
      generalize ts.getD x 0 = tx at *
      go_wp2_with (at_builtin; refine O.wpList_one (w := wr) rfl (.tmp 28) (.tmp 34) O.elU rfl rfl HOr.out _ rfl (by simp) rfl (by omega) HSZ.out ?_; intro p5 c5 w5 ho hk hv; have HO5 : Hid (w5.ownsRow w4.heap.size 44 1 (.slice p5 (out.length + 1) c5) (out.length + 1) (U64 (tks ts out) ++ [.int .u64 tx])) := ho; have HB5 : Hid (RowKit.Below w4.heap.size w4 w5) := hk.into HBr.out (fun b hb e => by have := (HOr.out.lt b e).1; omega) (Nat.le_refl _); have HST5 : Hid (Rst w w5 k b3 tg cT ng ts nx) := HST4.out.later HB5.out; have hd0 := HST5.out.bx.c0; have hd1 := HST5.out.bx.c1; clear ho hk hv hc0 hct)
      have hne : nx.getD x [] ≠ [] := by
        obtain ⟨y, hy, _⟩ := HRT.out.1.2.1
        exact List.ne_nil_of_mem (show y ∈ nx.getD x [] from hy)
      refine (nearest_at HGL.out.1 hk9 HST5.out.nin HGL.out.2.1 HGI.out.row hxk hne (O.own_later HF4.out HB5.out)).mono ?_
      rintro e w6 ⟨y, rfl, bn, hy1, hy2, hy3⟩
      have hnear := HRT.out.1.near HDI.out hy1 hy2 hy3
      have HB6 : Hid (RowKit.Below w4.heap.size w4 w6) := below_then HB5.out bn
      have HO6 : Hid (w6.ownsRow w4.heap.size 44 1 (.slice p5 (out.length + 1) c5) (out.length + 1) (U64 (tks ts (out ++ [x])))) := by
        have := O.own_later HO5.out bn
        rw [HTX.out] at this
        exact this
      have HTO : Hid (Told (Ed nx) m L (gk - 1) y (out ++ [x])) := HRT.out.2.step hr0 hnear.1
      have HNX : Hid (Nx (Ed nx) m (gk - 1) x y) := hnear.1
      have hyk : y < k := HGL.out.2.1 x y hy1
      have HLA : Hid (y = m ↔ gk = 1) := HRT.out.1.last hnear.1
      clear hnear hy1 hy2 hy3 bn HO5 HB5 HST5 hd0 hd1 hne
      by_cases hym : y = m
      · subst hym
        have h1 := HLA.out.1 rfl
        go_wp2_with fail
        go_ret
        have hw : Wk (Ed nx) y L y (out ++ [x]) := by
          have := HTO.out
          rw [h1] at this
          exact this.done
        refine ⟨p5, c5, out ++ [x], ts, nx, by simp, ?_, ?_, HGI.out, .inr ⟨y, L, HN.out.2.1, HN.out.2.2, HCY.out, hw⟩⟩
        · rw [List.length_append, List.length_singleton]
          exact B.own_mono HO6.out HST4.out.bel.size
        · exact below_then HST4.out.bel HB6.out
      · have hg1 : 1 < gk := by
          have : gk ≠ 1 := fun e => hym (HLA.out.2 e)
          omega
        have hne : ¬ (y : Int) = (m : Int) := by omega
        have HRA : Hid (Rat (Ed nx) m (gk - 1) y) := HRT.out.1.next hg1 HNX.out
        go_wp2_with fail
        go_roundg (gk - 1)
        case rel =>
          refine ⟨p5, c5, y, out ++ [x], by simp, rfl, hyk, by simp; omega, HB6, ?_, HRA.out, HTO.out⟩
          rw [List.length_append, List.length_singleton]
          exact HO6
        case measure => omega
end Go.Proofs.YtkgjmejpbklabaaGreat
