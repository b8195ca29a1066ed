/-
  Layer 17: slices.Insert of one entry.
-/
import Derived.Test.YthcpnfelnonhnaaDoorPa
import Derived.Lib.Overlaps
import Derived.Laws.Externs
import Derived.Laws.CopyRow
import Derived.Lib.AppendZerosOnto
import Derived.Shelf.RegionOpenPlain
namespace Go.Proofs.YthcpnfelnonhnaaDoor
open Go.RowKit

open Go.Shelf
theorem run_copy_rowk {P : Program} (w : World) (dT sT ty elem : TypeId) (sz g o dLen dCap : Nat) (a : Addr) (sLen sCap : Nat) (cur : Array Value) (t : TypeId) (cs : List Value)
    (hu : P.underlying dT = some (.slice elem)) (hs : (P.info? elem).map (·.size) = some sz)
    (hg : w.heap[g]? = some (.cells cur t (0, 0))) (hn : cs.length = Nat.min sLen dLen * sz)
    (hsrc : ∀ j v, cs[j]? = some v → w.cell? (a.add j) = some v) (hfit : o + cs.length ≤ cur.size) (h1 : ∀ v ∈ cs, v.oneCell' = true) :
    (Builtin.copy_ #[dT, sT] ty #[.slice (some ⟨g, o, none⟩) dLen dCap, .slice (some a) sLen sCap]).run P w =
      .ok (goInt (Nat.min sLen dLen)) (w.setRow g (cur.toList.take o ++ cs ++ cur.toList.drop (o + cs.length)).toArray) := by
  have hl := run_loadCells_list (P := P) w a cs hsrc
  have hst := run_storeCells_at P g o t cs 0 cur w hg (by simpa using hfit) h1
  cases hq : P.info? elem with
  | none => simp [hq] at hs
  | some i =>
    have hi : i.size = sz := by simpa [hq] using hs
    simp [Builtin.copy_, run_underlying hu, Builtin.lenOf, Builtin.firstCells, sizeOf, typeInfo, hq, hi, ← hn, hl, hst]
section
variable {P : Program}
theorem wp_copy_runI (w : World) {o : Oper} {a : Act} {K : Act → World → Prop} {Q : Exit → Act → World → Prop} (d s : Operand) (t t' : TypeId)
    (ho : o.op = .call { callee := .builtin .copy, args := #[d, s], argTypes := #[t, t'] }) (v u : Value) (hd : a.eval d = v) (hs : a.eval s = u) {v' : Value} {w' : World}
    (hr : (Builtin.copy_ #[t, t'] o.type #[v, u]).run P w = .ok v' w') (h : K (a.put o.dst v') w') : o.wp P a w K Q := by
  unfold Oper.wp execOp
  simp only [ho, resolve, invoke, builtin, Sem.run_bind, Sem.run_pure, Result.andThen_ok, List.map_toArray, List.map_cons, List.map_nil, hd, hs, hr]
  exact h
theorem wpList_copy_runI (w : World) {ops : Array Oper} {rest : List Oper} {o : Oper} {a : Act} {Q : Exit → Act → World → Prop} (hgd : o.guard = none) (d s : Operand) (t t' : TypeId)
    (ho : o.op = .call { callee := .builtin .copy, args := #[d, s], argTypes := #[t, t'] }) (v u : Value) (hd : a.eval d = v) (hs : a.eval s = u) {v' : Value} {w' : World}
    (hr : (Builtin.copy_ #[t, t'] o.type #[v, u]).run P w = .ok v' w') (h : wpList P ops Q rest (a.put o.dst v') w') : wpList P ops Q (o :: rest) a w :=
  wpList_plain hgd fun _ hK => wp_copy_runI w d s t t' ho v u hd hs hr (hK _ _ h)
theorem step_copy_runI {ops : Array Oper} {o : Oper} {a : Act} {w : World} {K : Act → World → Prop} {Q : Exit → Act → World → Prop} {E : Prop}
    (hg : o.guard = none) (d x : Operand) (dT sT : TypeId) (hop : o.op = Op.call { callee := Callee.builtin Builtin.copy, args := #[d, x], argTypes := #[dT, sT] })
    (v u : Value) (hd : a.eval d = v) (hx : a.eval x = u) {v' : Value} {w' : World} (hr : (Builtin.copy_ #[dT, sT] o.type #[v, u]).run P w = .ok v' w') (hK : K (a.put o.dst v') w') :
    if Region.wanted o (yielded ops a.tmps) = true then Oper.wp P o a w K Q else E := by
  have hw : Region.wanted o (yielded ops a.tmps) = true := by simp [Region.wanted, hg]
  rw [if_pos hw]
  unfold Oper.wp
  simp [execOp, hop, resolve, invoke, builtin, hd, hx, hr, Result.andThen]
  exact hK
end
theorem shift_eq {α : Type} {C A X D : List α} {a x d : Nat} (hA : C.take a = A) (hx : X.length = x) (hd : D.length = d) (hl : a + x + d ≤ C.length) :
    (C.take (a + x) ++ D ++ C.drop (a + x + d)).take a ++ X ++ (C.take (a + x) ++ D ++ C.drop (a + x + d)).drop (a + x) = A ++ X ++ D ++ C.drop (a + x + d) := by
  have e1 : (C.take (a + x) ++ D ++ C.drop (a + x + d)).take a = A := by
    rw [List.append_assoc, List.take_append_of_le_length (by simp; omega), List.take_take, Nat.min_eq_left (by omega), hA]
  have e2 : (C.take (a + x) ++ D ++ C.drop (a + x + d)).drop (a + x) = D ++ C.drop (a + x + d) := by
    have : (C.take (a + x)).length = a + x := by simp; omega
    rw [List.append_assoc, List.drop_append_of_le_length (by omega), List.drop_of_length_le (by omega), List.nil_append]
  rw [e1, e2, List.append_assoc (A ++ X)]
theorem grow_eq {α : Type} {C A X D : List α} {a x d : Nat} (hA : C.take a = A) (hx : X.length = x) (hd : D.length = d) (hl : a + x + d ≤ C.length) :
    (C.take a ++ X ++ C.drop (a + x)).take (a + x) ++ D ++ (C.take a ++ X ++ C.drop (a + x)).drop (a + x + d) = A ++ X ++ D ++ C.drop (a + x + d) := by
  have hal : A.length = a := by rw [← hA]; simp; omega
  have e1 : (C.take a ++ X ++ C.drop (a + x)).take (a + x) = A ++ X := by
    rw [hA, List.take_append_of_le_length (by simp; omega), List.take_of_length_le (by simp; omega)]
  have e2 : (C.take a ++ X ++ C.drop (a + x)).drop (a + x + d) = C.drop (a + x + d) := by
    rw [hA, List.drop_append, List.drop_of_length_le (by simp; omega), List.nil_append, List.drop_drop]
    congr 1
    simp; omega
  rw [e1, e2]
theorem EC_split (L : List En) (i : Nat) (x : En) : EC (L.take i ++ [x] ++ L.drop i) = EC (L.take i) ++ ecells x ++ EC (L.drop i) := by simp [EC]
theorem wf_take {L : List En} (h : EnsWf L) (i : Nat) : EnsWf (L.take i) := fun x hx => h x (List.mem_of_mem_take hx)
theorem wf_drop {L : List En} (h : EnsWf L) (i : Nat) : EnsWf (L.drop i) := fun x hx => h x (List.mem_of_mem_drop hx)
theorem wf_ins {L : List En} (h : EnsWf L) (i : Nat) {x : En} (hx : x.Wf) : EnsWf (L.take i ++ [x] ++ L.drop i) := ((wf_take h i).snoc hx).append (wf_drop h i)
theorem ins_len {L : List En} {i : Nat} (hi : i ≤ L.length) (x : En) : (L.take i ++ [x] ++ L.drop i).length = L.length + 1 := by simp; omega
set_option maxHeartbeats 2000000 in
set_option maxRecDepth 100000 in
/-- there is room: the entries behind the place move up -/
theorem insert_shift {w : World} {B g c i vb n : Nat} {L : List En} {x : En} (h : EOwn 57 w B (.slice (some ⟨g, 0, none⟩) n c) L) (hw : EnsWf L) (hl : L.length = n) (hx : x.Wf) (hv : LAt 57 w vb (ecells x)) (hvg : vb ≠ g) (hi : i < n) (hroom : n + 1 ≤ c) (hn : n ≤ 10000) :
    Calls Tryd.prog 38 #[.slice (some ⟨g, 0, none⟩) n c, .int .i64 (i : Int), .slice (some ⟨vb, 0, none⟩) 1 1] w fun e w' => e = .returned (.slice (some ⟨g, 0, none⟩) (n + 1) c) ∧ EOwn 57 w' B (.slice (some ⟨g, 0, none⟩) (n + 1) c) (L.take i ++ [x] ++ L.drop i) ∧ Kept (· = g) w w' := by
  subst hl
  obtain ⟨cur, hg, hcs, htk, hB, hcm⟩ : ∃ cur, w.heap[g]? = some (.cells cur 57 (0, 0)) ∧ cur.size = c * 34 ∧ cur.toList.take (L.length * 34) = EC L ∧ B ≤ g ∧ c ≤ maxLen := by
    rcases h.2 with ⟨e, _⟩ | ⟨g', cap, cur, e, h0, hg, h1, h2, h3, h4⟩
    · cases e
    · cases e; exact ⟨cur, hg, h3, h4, h0, h2⟩
  have hv0 : w.heap[vb]? = some (.cells (ecells x).toArray 57 (0, 0)) := hv
  have hlen : cur.toList.length = c * 34 := by rw [← hcs]; exact Array.length_toList
  have hov : ∀ lb cb, (callFunc 42 #[.slice (some ⟨vb, 0, none⟩) 1 1, .slice (some ⟨g, (i + 1) * 34, none⟩) lb cb]).run Tryd.prog w = .ok (.value (.bool false)) w := fun lb cb => by
    rw [run_callFunc_extern Tryd.func42 (by kernel_rfl) (by kernel_rfl) (by kernel_rfl) (e := Extern.SlicesOverlaps.overlaps #[60, 60] #[4]) (by kernel_rfl),
      Lib.run_overlaps_apart w 60 4 57 etC.ut 34 (fun w => Tryd.sizeOf57 w) ⟨vb, 0, none⟩ ⟨g, (i + 1) * 34, none⟩ 1 1 lb cb hvg 57 57 (ecells x).toArray.size cur.size (by simp [World.shape?, hv0]) (by simp [World.shape?, hg]) (by omega) (by simp [World.frozen?, hv0]) (by simp [World.frozen?, hv0])]
    rfl
  have hz2 : ¬ ((i : Int) = (L.length : Int)) := by omega
  have hr1 : ¬ (c : Int) < (L.length : Int) + 1 := by omega
  have HDl : Hid ((EC (L.drop i)).length = (L.length - i) * 34) := by show _ = _; rw [EC_len (wf_drop hw i), List.length_drop]
  have HXl : Hid ((ecells x).length = 34) := ecells_len hx.len
  have HAl : Hid (cur.toList.take (i * 34) = EC (L.take i)) := by
    have e2 : EC L = EC (L.take i) ++ EC (L.drop i) := by rw [← EC_append, List.take_append_drop]
    have el : (EC (L.take i)).length = i * 34 := by rw [EC_len (wf_take hw i), List.length_take]; omega
    show _ = _
    rw [show cur.toList.take (i * 34) = (cur.toList.take (L.length * 34)).take (i * 34) by rw [List.take_take, Nat.min_eq_left (Nat.mul_le_mul_right _ (by omega))], htk, e2, ← el, List.take_left]
  have hsrc1 : ∀ j v, (EC (L.drop i))[j]? = some v → w.cell? ((⟨g, i * 34, none⟩ : Addr).add j) = some v := fun j v hj => by
    have e2 : EC L = EC (L.take i) ++ EC (L.drop i) := by rw [← EC_append, List.take_append_drop]
    have el : (EC (L.take i)).length = i * 34 := by rw [EC_len (wf_take hw i), List.length_take]; omega
    have := h.cells (g := g) rfl (i * 34 + j) v (by rw [e2, List.getElem?_append_right (by omega), el, Nat.add_sub_cancel_left]; exact hj)
    rw [Go.WideShapes.add_plain] at this ⊢
    rwa [Nat.zero_add] at this
  have hfit1 : (i + 1) * 34 + (EC (L.drop i)).length ≤ cur.size := by
    rw [HDl.out, hcs]
    have := Nat.mul_le_mul_right 34 hroom
    omega
  obtain ⟨C1, hC1⟩ : ∃ C1, C1 = (cur.toList.take ((i + 1) * 34) ++ EC (L.drop i) ++ cur.toList.drop ((i + 1) * 34 + (EC (L.drop i)).length)).toArray := ⟨_, rfl⟩
  have hC1s : C1.size = cur.size := by rw [hC1]; simp only [List.size_toArray, List.length_append, List.length_take, List.length_drop, Array.length_toList]; omega
  have HCP1 : Hid (∀ (W : World) ty dc sc, W.heap[g]? = w.heap[g]? → (Builtin.copy_ #[60, 60] ty #[.slice (some ⟨g, (i + 1) * 34, none⟩) (L.length - i) dc, .slice (some ⟨g, i * 34, none⟩) (L.length + 1 - i) sc]).run Tryd.prog W = .ok (goInt ((L.length - i : Nat) : Int)) (W.setRow g C1)) := fun W ty dc sc hW => by
    have em : Nat.min (L.length + 1 - i) (L.length - i) = L.length - i := by simp only [Nat.min_def]; split <;> omega
    have := run_copy_rowk (P := Tryd.prog) W 60 60 ty 57 34 g ((i + 1) * 34) (L.length - i) dc ⟨g, i * 34, none⟩ (L.length + 1 - i) sc cur 57 (EC (L.drop i)) etC.ut etC.size (hW.trans hg) (by rw [em]; exact HDl.out) (fun j v hj => (World.cell?_of_block (w := w) (w' := W) (a := (⟨g, i * 34, none⟩ : Addr).add j) (by rw [Go.WideShapes.add_plain]; exact hW)).trans (hsrc1 j v hj)) hfit1 (EC_ones _)
    rw [em] at this
    rw [hC1]; exact this
  have HCP2 : Hid (∀ (W : World) ty dc, W.heap[g]? = some (.cells C1 57 (0, 0)) → LAt 57 W vb (ecells x) → (Builtin.copy_ #[60, 60] ty #[.slice (some ⟨g, i * 34, none⟩) (L.length + 1 - i) dc, .slice (some ⟨vb, 0, none⟩) 1 1]).run Tryd.prog W = .ok (goInt 1) (W.setRow g (EC (L.take i) ++ ecells x ++ EC (L.drop i) ++ cur.toList.drop ((L.length + 1) * 34)).toArray)) := fun W ty dc hW hV => by
    have em : Nat.min 1 (L.length + 1 - i) = 1 := by simp only [Nat.min_def]; split <;> omega
    have := run_copy_rowk (P := Tryd.prog) W 60 60 ty 57 34 g (i * 34) (L.length + 1 - i) dc ⟨vb, 0, none⟩ 1 1 C1 57 (ecells x) etC.ut etC.size hW (by rw [em]; exact HXl.out) (fun j v hj => by rw [Go.WideShapes.add_plain, Nat.zero_add, LAt.cell hV]; exact hj) (by rw [HXl.out, hC1s, hcs]; omega) (ecells_ones x)
    rw [em] at this
    rw [this, HXl.out]
    have e := shift_eq (C := cur.toList) (X := ecells x) (D := EC (L.drop i)) (a := i * 34) (x := 34) (d := (L.length - i) * 34) HAl.out HXl.out HDl.out (by rw [hlen]; omega)
    rw [show i * 34 + 34 + (L.length - i) * 34 = (L.length + 1) * 34 by omega] at e
    congr 3
    rw [hC1, HDl.out, show (i + 1) * 34 = i * 34 + 34 by omega, show i * 34 + 34 + (L.length - i) * 34 = (L.length + 1) * 34 by omega]
    exact e
  have HFin : Hid (∀ W : World, Kept (· = g) w W → W.heap[g]? = some (.cells (EC (L.take i) ++ ecells x ++ EC (L.drop i) ++ cur.toList.drop ((L.length + 1) * 34)).toArray 57 (0, 0)) → EOwn 57 W B (.slice (some ⟨g, 0, none⟩) (L.length + 1) c) (L.take i ++ [x] ++ L.drop i)) := fun W _ hW => by
    have e := ins_len (i := i) (L := L) (by omega) x
    refine ⟨EC_len (wf_ins hw i hx), .inr ⟨g, c, _, by rw [e], hB, hW, by omega, hcm, ?_, ?_⟩⟩
    · have e3 := EC_len (wf_ins hw i hx)
      rw [EC_split, e] at e3
      rw [List.size_toArray, List.length_append, e3, List.length_drop, hlen]; omega
    · have e3 := EC_len (wf_ins hw i hx)
      rw [e, EC_split] at *
      show ((EC (L.take i) ++ ecells x ++ EC (L.drop i)) ++ _).take _ = _
      rw [← e3, List.take_left]
  obtain ⟨C2, hC2⟩ : ∃ C2 : Array Value, C2 = (EC (L.take i) ++ ecells x ++ EC (L.drop i) ++ cur.toList.drop ((L.length + 1) * 34)).toArray := ⟨_, rfl⟩
  rw [← hC2] at HCP2 HFin
  clear hC2
  have HV : Hid (LAt 57 w vb (ecells x)) := hv
  have HG : Hid (w.heap[g]? = some (.cells cur 57 (0, 0))) := hg
  have HNE : Hid (vb ≠ g) := hvg
  clear hv0 hlen hC1 hC1s hsrc1 hfit1 hg hcs htk h hw hv hvg hx HDl HXl HAl
  go_enter Tryd.func38, Tryd.ntmps38
  go_wp2_with (simp only [hov])
  clear hov
  have mixed : Tryd.prog.follows Departure.mixedOrders = true := by kernel_rfl
  have hw1 : IntKind.i64.wrap ((i : Int) + 1) = (i : Int) + 1 := by rw [IntKind.wrap_i64]; omega
  have hb1 : (0 : Int) ≤ (i : Int) + 1 := by omega
  have htn : ((i : Int) + 1).toNat = i + 1 := by omega
  have hb2 : ¬ (c = i + 1) := by omega
  have hb3 : (i : Int) + 1 ≤ (L.length : Int) + 1 := by omega
  have hb4 : ¬ (c = i) := by omega
  have hb5 : (i : Int) ≤ (L.length : Int) + 1 := by omega
  have hcp := HCP1.out w.drew 3 (c - (i + 1)) (c - i) rfl
  go_region
  clear hcp
  have K1 : Kept (· = g) w (w.drew.setRow g C1) := (Kept.of_below _ (below_drawn 1)).trans (Kept.setRow _ g C1) (fun _ _ e => e)
  have HK1 : Hid (Kept (· = g) w (w.drew.setRow g C1)) := K1
  have HG1 : Hid ((w.drew.setRow g C1).heap[g]? = some (.cells C1 57 (0, 0))) := setRow_heap w.drew g cur _ 57 (0, 0) HG.out
  have HV1 : Hid (LAt 57 (w.drew.setRow g C1) vb (ecells x)) := (K1.block vb (LAt.lt HV.out) HNE.out).trans HV.out
  clear K1 HCP1 hw1 hb1 htn mixed
  generalize w.drew.setRow g C1 = w1 at *
  have hcp2 := HCP2.out w1 3 (c - i) HG1.out HV1.out
  go_wp2
  go_ret
  have K2 := HK1.out.trans (Kept.setRow w1 g C2) (fun _ _ e => e)
  exact ⟨rfl, HFin.out _ K2 (setRow_heap w1 g C1 _ 57 (0, 0) HG1.out), K2⟩
theorem zeros_len (k : Nat) : (Builtin.zeroCells (ecells en0).toArray k).size = k * 34 := by simp [Builtin.zeroCells, ecells_len (show en0.v.length = 32 from zs_len 32)]
theorem below_drew_alloc (w : World) (o : Obj) : Below w.heap.size w (w.drew.alloc o) := below_then (show Below w.heap.size w w.drew from below_drawn 1) (below_alloc w.drew o)
set_option maxHeartbeats 2000000 in
set_option maxRecDepth 100000 in
/-- there is none: a new row -/
theorem insert_grow {w : World} {B g c i vb n : Nat} {L : List En} {x : En} (h : EOwn 57 w B (.slice (some ⟨g, 0, none⟩) n c) L) (hw : EnsWf L) (hl : L.length = n) (hx : x.Wf) (hv : LAt 57 w vb (ecells x)) (hi : i < n) (hroom : ¬ n + 1 ≤ c) (hn : n ≤ 10000) (hB : B ≤ w.heap.size) :
    Calls Tryd.prog 38 #[.slice (some ⟨g, 0, none⟩) n c, .int .i64 (i : Int), .slice (some ⟨vb, 0, none⟩) 1 1] w fun e w' => ∃ c', e = .returned (.slice (some ⟨w.heap.size, 0, none⟩) (n + 1) c') ∧ EOwn 57 w' B (.slice (some ⟨w.heap.size, 0, none⟩) (n + 1) c') (L.take i ++ [x] ++ L.drop i) ∧ Below w.heap.size w w' := by
  subst hl
  obtain ⟨i0, hi0, hz0, hz1, hz2⟩ := info_parts etC.inf
  have hnc : L.length ≤ c := by
    rcases h.2 with ⟨e, _⟩ | ⟨g', cap, cur, e, h0, hg, h1, h2, h3, h4⟩
    · cases e
    · cases e; exact h1
  have hgw : g < w.heap.size := (h.lt g rfl).2
  have HDl : Hid ((EC (L.drop i)).length = (L.length - i) * 34) := by show _ = _; rw [EC_len (wf_drop hw i), List.length_drop]
  have HXl : Hid ((ecells x).length = 34) := ecells_len hx.len
  have HAl : Hid ((EC (L.take i)).length = i * 34) := by show _ = _; rw [EC_len (wf_take hw i), List.length_take]; omega
  have e2 : EC L = EC (L.take i) ++ EC (L.drop i) := by rw [← EC_append, List.take_append_drop]
  have hcell : ∀ j v, (EC L)[j]? = some v → w.cell? ⟨g, j, none⟩ = some v := fun j v hj => by
    have := h.cells (g := g) rfl j v hj
    rw [Go.WideShapes.add_plain] at this
    rwa [Nat.zero_add] at this
  have hold : (Builtin.firstCells i0.size i (.slice (some ⟨g, 0, none⟩) i c)).run Tryd.prog w.drew = .ok (EC (L.take i)).toArray w.drew :=
    run_firstCells_some w.drew i0.size i ⟨g, 0, none⟩ i c (EC (L.take i)) (by rw [hz1]; exact HAl.out) (fun j v hj => by
      rw [Go.WideShapes.add_plain, Nat.zero_add]
      exact hcell j v (by rw [e2, List.getElem?_append_left (List.getElem?_eq_some_iff.1 hj).1]; exact hj))
  have hkk : (L.length : Int) + 1 - (i : Int) = ((L.length + 1 - i : Nat) : Int) := by omega
  have hik : i + (L.length + 1 - i) = L.length + 1 := by omega
  obtain ⟨G, hG, hcm⟩ : ∃ G, (∀ ty, (Builtin.append_ #[60, 3] ty #[.slice (some ⟨g, 0, none⟩) i c, .int .i64 ((L.length : Int) + 1 - (i : Int))]).run Tryd.prog w = .ok (.slice (some ⟨w.heap.size, 0, none⟩) (L.length + 1) G) (w.drew.alloc (.cells ((EC (L.take i)).toArray ++ Builtin.zeroCells (ecells en0).toArray (L.length + 1 - i) ++ Builtin.zeroCells (ecells en0).toArray (G - (L.length + 1))) 57))) ∧ L.length + 1 ≤ G ∧ G ≤ maxLen := by
    have hb : (L.length + 1) * 48 ≤ 140737488355328 := by omega
    have hfit := growslice_fits (need := L.length + 1) (old := c) (bytes := 48) (by omega) hb
    have h65 : (20000 : Nat) ≤ maxLen := by decide
    refine ⟨grownCap w (L.length + 1) c 57, fun ty => ?_, grownCap_ge _ _ _ _, grownCap_le_maxLen _ _ _ _ (by omega)⟩
    have h := Lib.run_append_grow_zeros (P := Tryd.prog) w 60 3 ty 57 i0 _ .i64 .i64 etC.ut Tryd.underlying3 hi0 hz0 (some ⟨g, 0, none⟩) i c (EC (L.take i)) hold (L.length + 1 - i) (by omega) (by omega) (by omega) (by omega) (by rw [hz2]; omega) (by rw [hz2, hik]; exact hfit)
    rw [hik] at h
    rw [hkk]
    exact h
  obtain ⟨R, hR⟩ : ∃ R : Array Value, R = (EC (L.take i)).toArray ++ Builtin.zeroCells (ecells en0).toArray (L.length + 1 - i) ++ Builtin.zeroCells (ecells en0).toArray (G - (L.length + 1)) := ⟨_, rfl⟩
  have hRs : R.size = G * 34 := by rw [hR, Array.size_append, Array.size_append, zeros_len, zeros_len, List.size_toArray, HAl.out]; omega
  have hRl : R.toList.length = G * 34 := by rw [← hRs]; exact Array.length_toList
  have hRt : R.toList.take (i * 34) = EC (L.take i) := by
    rw [hR, Array.toList_append, Array.toList_append, List.append_assoc]
    show List.take (i * 34) (EC (L.take i) ++ _) = _
    rw [← HAl.out, List.take_left]
  rw [← hR] at hG
  obtain ⟨W0, hW0⟩ : ∃ W0, W0 = w.drew.alloc (.cells R 57) := ⟨_, rfl⟩
  rw [← hW0] at hG
  have B0 : Below w.heap.size w W0 := by rw [hW0]; exact below_drew_alloc w _
  have HN0 : Hid (W0.heap[w.heap.size]? = some (.cells R 57 (0, 0))) := by rw [hW0]; exact heap_alloc_new w.drew _
  have HV0 : Hid (LAt 57 W0 vb (ecells x)) := LAt.later hv B0
  obtain ⟨C1, hC1⟩ : ∃ C1, C1 = (R.toList.take (i * 34) ++ ecells x ++ R.toList.drop (i * 34 + 34)).toArray := ⟨_, rfl⟩
  have hC1s : C1.size = G * 34 := by rw [hC1]; simp only [List.size_toArray, List.length_append, List.length_take, List.length_drop, hRl, HXl.out]; omega
  have HCP1 : Hid ((Builtin.copy_ #[60, 60] 3 #[.slice (some ⟨w.heap.size, i * 34, none⟩) (L.length + 1 - i) (G - i), .slice (some ⟨vb, 0, none⟩) 1 1]).run Tryd.prog W0 = .ok (goInt 1) (W0.setRow w.heap.size C1)) := by
    have em : Nat.min 1 (L.length + 1 - i) = 1 := by simp only [Nat.min_def]; split <;> omega
    have := run_copy_rowk (P := Tryd.prog) W0 60 60 3 57 34 w.heap.size (i * 34) (L.length + 1 - i) (G - i) ⟨vb, 0, none⟩ 1 1 R 57 (ecells x) etC.ut etC.size HN0.out (by rw [em]; exact HXl.out) (fun j v hj => by rw [Go.WideShapes.add_plain, Nat.zero_add, LAt.cell HV0.out]; exact hj) (by rw [HXl.out, hRs]; omega) (ecells_ones x)
    rw [em] at this
    show _ = _
    rw [this, HXl.out, hC1]
    rfl
  obtain ⟨W1, hW1⟩ : ∃ W1, W1 = W0.setRow w.heap.size C1 := ⟨_, rfl⟩
  rw [← hW1] at HCP1
  have B1 : Below w.heap.size w W1 := by rw [hW1]; exact below_setRow B0 (Nat.le_refl _) _
  have HN1 : Hid (W1.heap[w.heap.size]? = some (.cells C1 57 (0, 0))) := by rw [hW1]; exact setRow_heap W0 _ R _ 57 (0, 0) HN0.out
  obtain ⟨C2, hC2⟩ : ∃ C2 : Array Value, C2 = (EC (L.take i) ++ ecells x ++ EC (L.drop i) ++ R.toList.drop ((L.length + 1) * 34)).toArray := ⟨_, rfl⟩
  have HCP2 : Hid ((Builtin.copy_ #[60, 60] 3 #[.slice (some ⟨w.heap.size, (i + 1) * 34, none⟩) (L.length - i) (G - (i + 1)), .slice (some ⟨g, i * 34, none⟩) (L.length - i) (c - i)]).run Tryd.prog W1.drew = .ok (goInt ((L.length - i : Nat) : Int)) (W1.drew.setRow w.heap.size C2)) := by
    have em : Nat.min (L.length - i) (L.length - i) = L.length - i := Nat.min_self _
    have := run_copy_rowk (P := Tryd.prog) W1.drew 60 60 3 57 34 w.heap.size ((i + 1) * 34) (L.length - i) (G - (i + 1)) ⟨g, i * 34, none⟩ (L.length - i) (c - i) C1 57 (EC (L.drop i)) etC.ut etC.size HN1.out (by rw [em]; exact HDl.out) (fun j v hj => by
      rw [Go.WideShapes.add_plain]
      have b2 : Below w.heap.size w W1.drew := B1.trans (below_drawn 1)
      rw [b2.cell (p := ⟨g, i * 34 + j, none⟩) hgw]
      exact hcell _ v (by rw [e2, List.getElem?_append_right (by rw [HAl.out]; omega), HAl.out, Nat.add_sub_cancel_left]; exact hj)) (by rw [HDl.out, hC1s]; omega) (EC_ones _)
    rw [em] at this
    show _ = _
    rw [this, HDl.out]
    have e := grow_eq (C := R.toList) (X := ecells x) (D := EC (L.drop i)) (a := i * 34) (x := 34) (d := (L.length - i) * 34) hRt HXl.out HDl.out (by rw [hRl]; omega)
    rw [show i * 34 + 34 + (L.length - i) * 34 = (L.length + 1) * 34 by omega] at e
    congr 2
    rw [hC2]
    congr 1
    rw [hC1, show (i + 1) * 34 = i * 34 + 34 by omega, show i * 34 + 34 + (L.length - i) * 34 = (L.length + 1) * 34 by omega]
    exact e
  have HFin : Hid (∀ W : World, W.heap[w.heap.size]? = some (.cells C2 57 (0, 0)) → EOwn 57 W B (.slice (some ⟨w.heap.size, 0, none⟩) (L.length + 1) G) (L.take i ++ [x] ++ L.drop i)) := fun W hW => by
    have e := ins_len (i := i) (L := L) (by omega) x
    have e3 := EC_len (wf_ins hw i hx)
    rw [EC_split, e] at e3
    refine ⟨EC_len (wf_ins hw i hx), .inr ⟨w.heap.size, G, _, by rw [e], hB, hW, by omega, hcm.2, ?_, ?_⟩⟩
    · rw [hC2, List.size_toArray, List.length_append, e3, List.length_drop, hRl]; omega
    · rw [e, EC_split, hC2]
      show ((EC (L.take i) ++ ecells x ++ EC (L.drop i)) ++ _).take _ = _
      rw [← e3, List.take_left]
  have HB1 : Hid (Below w.heap.size w W1) := B1
  have hGc := hcm.1
  have hzz : ¬ ((i : Int) = (L.length : Int)) := by omega
  have hr1 : (c : Int) < (L.length : Int) + 1 := by omega
  have hap := hG 60
  have hcp1 := HCP1.out
  have hkx : ¬ G = i := by omega
  clear hkk hik hC1 hC1s hC2 hW0 hW1 hG hR hRs hRl hRt B0 B1 e2 hcell hold h hw hx hv HN0 HV0 HCP1 HDl HXl HAl hi0 hz0 hz1 hz2 hcm hgw i0
  go_enter Tryd.func38, Tryd.ntmps38
  go_wp2_with (at_builtin; refine Lib.wpList_append_run _ rfl _ _ _ _ rfl _ _ rfl rfl _ _ hap ?_)
  clear hap hcp1
  have mixed : Tryd.prog.follows Departure.mixedOrders = true := by kernel_rfl
  have hw1 : IntKind.i64.wrap ((i : Int) + 1) = (i : Int) + 1 := by rw [IntKind.wrap_i64]; omega
  have hb1 : (0 : Int) ≤ (i : Int) + 1 := by omega
  have htn : ((i : Int) + 1).toNat = i + 1 := by omega
  have hb2 : ¬ (G = i + 1) := by omega
  have hb3 : (i : Int) + 1 ≤ (L.length : Int) + 1 := by omega
  have hb4 : ¬ (c = i) := by omega
  have hb5 : (i : Int) ≤ (L.length : Int) := by omega
  have hcp := HCP2.out
  go_region
  clear hcp mixed hw1 hb1 htn
  go_wp2
  go_ret
  exact ⟨G, rfl, HFin.out _ (setRow_heap W1.drew _ C1 _ 57 (0, 0) HN1.out), below_setRow (HB1.out.trans (below_drawn 1)) (Nat.le_refl _) _⟩
set_option maxHeartbeats 2000000 in
set_option maxRecDepth 100000 in
/-- at the end -/
theorem insert_end {w : World} {B vb n c : Nat} {p : Option Addr} {L : List En} {x : En} (h : EOwn 57 w B (.slice p n c) L) (hw : EnsWf L) (hl : L.length = n) (hx : x.Wf) (hv : LAt 57 w vb (ecells x)) (hn : n ≤ 10000) (hB : B ≤ w.heap.size) :
    Calls Tryd.prog 38 #[.slice p n c, .int .i64 (n : Int), .slice (some ⟨vb, 0, none⟩) 1 1] w fun e w' => ∃ v', e = .returned v' ∧ EOwn 57 w' B v' (L ++ [x]) ∧ w.grownBy w' (Value.slice p n c).ownBlock ∧ (v'.ownBlock = (Value.slice p n c).ownBlock ∨ v'.ownBlock = some w.heap.size) := by
  have hM : EIn w (some ⟨vb, 0, none⟩) 1 [x] := ⟨rfl, fun y hy => by rw [List.mem_singleton.1 hy]; exact hx, fun _ => ⟨vb, 0, rfl, fun j v hj => by
    rw [Nat.zero_add, LAt.cell hv]
    simpa [EC] using hj⟩⟩
  obtain ⟨q', c', W', hr, ho, hg, hat⟩ := app_ens etC (c := 1) h hw hM (by omega) hB
  have hap : (Builtin.append_ #[60, 60] 60 #[.slice p n c, .slice (some ⟨vb, 0, none⟩) 1 1]).run Tryd.prog w = .ok (.slice q' (L ++ [x]).length c') W' := hr
  have HO : Hid (EOwn 57 W' B (.slice q' (L ++ [x]).length c') (L ++ [x])) := ho
  have HG : Hid (w.grownBy W' (Value.slice p n c).ownBlock) := hg
  have HA : Hid ((Value.slice q' (L ++ [x]).length c').ownBlock = (Value.slice p n c).ownBlock ∨ (Value.slice q' (L ++ [x]).length c').ownBlock = some w.heap.size) := hat
  have hz : n ≤ c := by
    rcases h.2 with ⟨e, e2⟩ | ⟨g', cap, cur, e, h0, hg, h1, h2, h3, h4⟩
    · cases e; omega
    · cases e; omega
  generalize (L ++ [x]).length = m at *
  clear hr ho hg hat hM h hw hx hv
  go_enter Tryd.func38, Tryd.ntmps38
  cases p with
  | none =>
    go_wp2_with (at_builtin; refine Lib.wpList_append_run _ rfl _ _ _ _ rfl _ _ rfl rfl _ _ hap ?_)
    go_ret
    exact ⟨_, rfl, HO.out, HG.out, HA.out⟩
  | some a =>
    obtain ⟨ab, ao, asp⟩ := a
    go_wp2_with (at_builtin; refine Lib.wpList_append_run _ rfl _ _ _ _ rfl _ _ rfl rfl _ _ hap ?_)
    all_goals (go_ret; exact ⟨_, rfl, HO.out, HG.out, HA.out⟩)
/-- an entry is put between -/
theorem insert_at {w : World} {B vb i : Nat} {v : Value} {L : List En} {x : En} (h : EOwn 57 w B v L) (hw : EnsWf L) (hx : x.Wf) (hv : LAt 57 w vb (ecells x)) (hvg : v.ownBlock ≠ some vb) (hi : i ≤ L.length) (hn : L.length ≤ 10000) (hB : B ≤ w.heap.size) :
    Calls Tryd.prog 38 #[v, .int .i64 (i : Int), .slice (some ⟨vb, 0, none⟩) 1 1] w fun e w' => ∃ v', e = .returned v' ∧ EOwn 57 w' B v' (L.take i ++ [x] ++ L.drop i) ∧ Kept (fun b => v.ownBlock = some b) w w' ∧ (v'.ownBlock = v.ownBlock ∨ v'.ownBlock = some w.heap.size) := by
  have hf := O.own_form h
  obtain ⟨p, c, rfl, hc, hp⟩ := hf
  by_cases hin : i < L.length
  · obtain ⟨g, rfl⟩ := hp (by omega)
    by_cases hroom : L.length + 1 ≤ c
    · refine (insert_shift h hw rfl hx hv (fun e => hvg (by rw [e]; rfl)) hin hroom hn).mono ?_
      rintro e w' ⟨rfl, h1, h2⟩
      exact ⟨_, rfl, h1, h2.wider (fun x _ e => by subst e; rfl), .inl rfl⟩
    · refine (insert_grow h hw rfl hx hv hin hroom hn hB).mono ?_
      rintro e w' ⟨c', rfl, h1, h2⟩
      exact ⟨_, rfl, h1, Kept.of_below _ h2, .inr rfl⟩
  · obtain rfl : i = L.length := by omega
    refine (insert_end h hw rfl hx hv hn hB).mono ?_
    rintro e w' ⟨v', rfl, h1, h2, h3⟩
    refine ⟨v', rfl, ?_, O.kept_grown h2, h3⟩
    rw [List.take_length, List.drop_length, List.append_nil]
    exact h1
end Go.Proofs.YthcpnfelnonhnaaDoor
