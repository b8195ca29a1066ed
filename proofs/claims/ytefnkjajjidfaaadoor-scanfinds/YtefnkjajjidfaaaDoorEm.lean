/-
  The laws' own: plain.
-/
import Derived.Test.YtefnkjajjidfaaaDoorEl
import Derived.Test.YtefnkjajjidfaaaDoorDZa
import Derived.Test.YtefnkjajjidfaaaDoorEk
import Derived.Laws.OwnMore
namespace Go.Proofs.YtefnkjajjidfaaaDoor
open Go.RowKit


section
variable {P : Program} {ops : Array Oper} {o : Oper} {a : Act} {w w' : World} {Q : Exit → Act → World → Prop} {K : Act → World → Prop}
theorem sq_val (hgd : Region.wanted o (yielded ops a.tmps) = true) {v : Value} (hrun : (execOp a.eval o).run P w = .ok (.value v) w') (h : K (a.put o.dst v) w') : if Region.wanted o (yielded ops a.tmps) = true then Oper.wp P o a w K Q else K (a.put o.dst undef) w := by
  rw [if_pos hgd]
  unfold Oper.wp
  rw [hrun]
  exact h
theorem sq_build (hgd : Region.wanted o (yielded ops a.tmps) = true) (ty : TypeId) {ps : Array (Nat × Operand)} (ho : o.op = .build ty ps) {vs : List (Nat × Value)} {v : Value} (hx : ps.toList.map (fun (i, x) => (i, a.eval x)) = vs) (hrun : (Instr.build ty vs.toArray).run P w = .ok v w) (h : K (a.put o.dst v) w) : if Region.wanted o (yielded ops a.tmps) = true then Oper.wp P o a w K Q else K (a.put o.dst undef) w :=
  sq_val hgd (by unfold execOp; simp only [ho]; rw [show ps.map (fun (i, x) => (i, a.eval x)) = vs.toArray by rw [← hx, ← Array.toList_map]]; simp only [Sem.run_bind, hrun, Result.andThen_ok, Sem.run_pure]) h
theorem sq_slice (hgd : Region.wanted o (yielded ops a.tmps) = true) (ty : TypeId) {x : Operand} (ho : o.op = .buildSlice ty 1 #[(0, x)]) {u v : Value} (hx : a.eval x = u) (hrun : (Instr.buildSlice ty 1 #[(0, u)]).run P w = .ok v w') (h : K (a.put o.dst v) w') : if Region.wanted o (yielded ops a.tmps) = true then Oper.wp P o a w K Q else K (a.put o.dst undef) w :=
  sq_val hgd (by
    have e : (#[(0, x)] : Array (Nat × Operand)).map (fun (i, y) => (i, a.eval y)) = #[(0, u)] := by simp [hx]
    unfold execOp; simp only [ho]; rw [e]; simp only [Sem.run_bind, hrun, Result.andThen_ok, Sem.run_pure]) h
theorem sq_slice0 (hgd : Region.wanted o (yielded ops a.tmps) = true) (ty : TypeId) (ho : o.op = .buildSlice ty 0 #[]) {v : Value} (hrun : (Instr.buildSlice ty 0 #[]).run P w = .ok v w') (h : K (a.put o.dst v) w') : if Region.wanted o (yielded ops a.tmps) = true then Oper.wp P o a w K Q else K (a.put o.dst undef) w :=
  sq_val hgd (by
    have e : (#[] : Array (Nat × Operand)).map (fun (i, y) => (i, a.eval y)) = #[] := by simp
    unfold execOp; simp only [ho]; rw [e]; simp only [Sem.run_bind, hrun, Result.andThen_ok, Sem.run_pure]) h
theorem sq_append (hgd : Region.wanted o (yielded ops a.tmps) = true) {s x : Operand} {t ty : TypeId} (ho : o.op = .call { callee := .builtin .append, args := #[s, x], argTypes := #[t, t] }) (hty : o.type = ty) {u1 u2 v : Value} (hs : a.eval s = u1) (hx : a.eval x = u2) (hrun : (Builtin.append_ #[t, t] ty #[u1, u2]).run P w = .ok v w') (h : K (a.put o.dst v) w') : if Region.wanted o (yielded ops a.tmps) = true then Oper.wp P o a w K Q else K (a.put o.dst undef) w :=
  sq_val hgd (by subst hty; simp [execOp, ho, resolve, invoke, builtin, hs, hx, hrun, Result.andThen]) h
end
theorem build_im0 (w : World) : (Instr.buildSlice 26 0 #[]).run Tryd.prog w = .ok (.slice (some ⟨w.heap.size, 0, none⟩) 0 0) (w.alloc (.cells #[] 32)) := by
  obtain ⟨i0, hi, hz0, hz1, hz2⟩ := info_parts infoI
  simp [Instr.buildSlice, run_underlying Tryd.underlying26, sizeOf, typeInfo, hi, Instr.fill, newRow]
  rw [show (Array.range 0) = #[] from rfl, Array.map_empty]
/-- images copied: 'append([]api.Image{}, l...)' -/
theorem app_copy {w : World} {q : Option Addr} {m c : Nat} {l : List Im} (h : MIn w q m l) (hm : m ≤ 3000000) : ∃ q' c' w', (Builtin.append_ #[26, 26] 26 #[.slice (some ⟨w.heap.size, 0, none⟩) 0 0, .slice q m c]).run Tryd.prog (w.alloc (.cells #[] 32)) = .ok (.slice q' l.length c') w' ∧ IOwn w' w.heap.size (.slice q' l.length c') l ∧ Below w.heap.size w w' := by
  obtain ⟨i0, hi0, hz0, hz1, hz2⟩ := info_parts infoI
  have hb := below_alloc w (.cells #[] 32)
  have own0 : (w.alloc (.cells #[] 32)).ownsRow w.heap.size 32 33 (.slice (some ⟨w.heap.size, 0, none⟩) 0 0) 0 [] := World.ownsRow_made w #[] 0 (Nat.le_refl _) (Nat.zero_le _) rfl
  have h65 : (4000000 : Nat) ≤ maxLen := by decide
  have go : ∀ (ad : Addr), q = some ad → ∃ q' c' w', (Builtin.append_ #[26, 26] 26 #[.slice (some ⟨w.heap.size, 0, none⟩) 0 0, .slice q m c]).run Tryd.prog (w.alloc (.cells #[] 32)) = .ok (.slice q' l.length c') w' ∧ IOwn w' w.heap.size (.slice q' l.length c') l ∧ Below w.heap.size w w' := by
    rintro ad rfl
    obtain ⟨v', w', hrun, hown', hgrow, -⟩ := run_append_own (P := Tryd.prog) (w.alloc (.cells #[] 32)) w.heap.size 26 26 32 i0 _ 33 40 Tryd.underlying26 hi0 hz0 hz1 hz2 rfl (by decide) _ 0 [] own0 ad m c (IC l) (by rw [IC_len h.wf, h.len]) (fun j u hu => by
      by_cases h0 : 0 < m
      · obtain ⟨b', o', e, hr⟩ := (h.later hb).cells h0
        cases e
        rw [Addr.add_mid]
        exact hr j u hu
      · have : l = [] := List.length_eq_zero_iff.1 (by rw [h.len]; omega)
        rw [this] at hu; simp [IC] at hu) (IC_ones l) (by omega) (by omega) (by simp)
    rw [Nat.zero_add, List.nil_append] at hown'
    rw [← h.len] at hown'
    obtain ⟨q', c', rfl, -, -, -⟩ := IOwn.in hown' h.wf
    refine ⟨q', c', w', hrun, hown', ?_⟩
    exact ((Below.refl _ w).alloc (Nat.le_refl _) _).grown hgrow (by simp) fun j ej => by simp only [Value.ownBlock, Option.some.injEq] at ej; omega
  by_cases h0 : 0 < m
  · obtain ⟨b, o, e, -⟩ := h.cells h0
    exact go _ e
  · have m0 : m = 0 := by omega
    have l0 : l = [] := List.length_eq_zero_iff.1 (by rw [h.len, m0])
    cases q with
    | none =>
      refine ⟨some ⟨w.heap.size, 0, none⟩, 0, w.alloc (.cells #[] 32), ?_, ?_, hb⟩
      · subst m0; subst l0
        simp [Builtin.append_, run_underlying Tryd.underlying26, sizeOf, typeInfo, hi0, Builtin.lenOf, Builtin.firstCells, storeCells]
      · subst l0; exact own0
    | some ad => exact go ad rfl

theorem sizeR : (Tryd.prog.info? 48).map (·.size) = some 4 := by kernel_rfl
theorem zeroR : (Tryd.prog.info? 48).bind (·.zero) = some (.agg (gcells 0 0 0 (.slice none 0 0)).toArray) := by kernel_rfl
theorem placesR : placesOf Tryd.prog 48 = some plLg := by kernel_rfl
theorem buildR3 (w : World) (t l f : Int) : (Instr.build 48 #[(0, .int .u64 t), (1, .int .u64 l), (2, .int .u64 f)]).run Tryd.prog w = .ok (.agg (gcells t l f (.slice none 0 0)).toArray) w :=
  run_build w 48 _ _ ((built_of 48 _ _ _ placesR zeroR).trans rfl)
theorem buildR1 (w : World) (l : Int) : (Instr.build 48 #[(1, .int .u64 l)]).run Tryd.prog w = .ok (.agg (gcells 0 l 0 (.slice none 0 0)).toArray) w :=
  run_build w 48 _ _ ((built_of 48 _ _ _ placesR zeroR).trans rfl)
theorem allocR (w : World) : (Instr.alloc 48 true (.tuple #[])).run Tryd.prog w = .ok (.pointer (some ⟨w.heap.size, 0, none⟩)) (w.alloc (.cells (gcells 0 0 0 (.slice none 0 0)).toArray 48)) := by
  simp only [Instr.alloc, Sem.run_bind, zv 48 _ zeroR, Result.andThen_ok]
  simp [newVar, newRow, Value.cells]
theorem store_newR (w : World) (t l f : Int) {v : Value} (hv : v.oneCell' = true) : (Instr.storeAt 48 (.pointer (some ⟨w.heap.size, 0, none⟩)) (.agg (gcells t l f v).toArray)).run Tryd.prog (w.alloc (.cells (gcells 0 0 0 (.slice none 0 0)).toArray 48)) = .ok () (w.alloc (.cells (gcells t l f v).toArray 48)) := by
  rw [(LAt.new 48 w (gcells 0 0 0 (.slice none 0 0))).store (ds := gcells t l f v) sizeR rfl (all_oneCell_toArray (gcells_ones hv t l f)), setRow_alloc]
theorem LAt.loadR {w : World} {g : Nat} {t l f : Int} {v : Value} (h : LAt 48 w g (gcells t l f v)) : (Instr.loadAt 48 (.pointer (some ⟨g, 0, none⟩))).run Tryd.prog w = .ok (.agg (gcells t l f v).toArray) w :=
  run_loadAt_mid w g 0 48 (gcells t l f v) _ (LAt.range h) Tryd.underlying48 rfl sizeR
theorem infoX : (Tryd.prog.info? 28).map (fun i => (i.zero, i.size, i.bytes)) = some (some (.agg #[.int .u64 0, .slice none 0 0]), 2, 32) := by kernel_rfl
theorem zeroX : (Tryd.prog.info? 28).bind (·.zero) = some (.agg #[.int .u64 0, .slice none 0 0]) := by kernel_rfl
theorem placesX : placesOf Tryd.prog 28 = some plT := by kernel_rfl
theorem buildX (w : World) (p : Int) (q : Option Addr) (n m : Nat) : (Instr.build 28 #[(0, .int .u64 p), (1, .slice q n m)]).run Tryd.prog w = .ok (.agg #[.int .u64 p, .slice q n m]) w :=
  run_build w 28 _ _ ((built_of 28 _ _ _ placesX zeroX).trans rfl)
theorem build_rtx (w : World) (p : Int) (q : Option Addr) (n m : Nat) : (Instr.buildSlice 22 1 #[(0, .agg #[.int .u64 p, .slice q n m])]).run Tryd.prog w = .ok (.slice (some ⟨w.heap.size, 0, none⟩) 1 1) (w.alloc (.cells #[.int .u64 p, .slice q n m] 28)) := by
  obtain ⟨i0, hi, hz0, hz1, hz2⟩ := info_parts infoX
  refine run_buildSlice w 22 28 1 _ _ i0 _ Tryd.underlying22 hi hz0 (by rw [hz1]; decide) (by rw [hz1]; decide) ?_
  rw [hz1]
  have hA : ∀ A : Array Value, A.size = 2 → Instr.fill (fun i => some (i * 2, 2)) A [(0, .agg #[.int .u64 p, .slice q n m])] = some #[.int .u64 p, .slice q n m] := by
    intro A hA
    have a0 := part_fill 0 [.int .u64 p, .slice q n m] A.toList (by simp; omega)
    simp only [Instr.fill, Value.cells, List.size_toArray, Nat.zero_mul]
    rw [if_neg (by simp [hA])]
    have a0' : (#[Value.int .u64 p, .slice q n m]).zipIdx.foldl (fun cs x => match x with | (c, j) => cs.setIfInBounds (0 + j) c) A = ((A.toList.take 0 ++ [Value.int .u64 p, Value.slice q n m] ++ A.toList.drop (0 + 2))).toArray := a0
    rw [a0', List.drop_eq_nil_of_le (by simp [hA])]
    simp
  exact hA _ (by simp)
/-- a transaction more onto a row of the document's -/
theorem XOwn.app {V : World} {B Bo : Nat} {t l f : Int} {v : Value} {txs : List TX} {vs : List Value} (h : XOwn 28 V B v txs vs) (hlg : LAt 48 V Bo (gcells t l f v)) (hB : B ≤ V.heap.size) (hl : txs.length ≤ 3000000) {p : Int} {q : Option Addr} {k m : Nat} {ims : List Im} (hp : u64 p) (hw : ImsWf ims) (him : IOwn V B (.slice q k m) ims) :
    ∃ q' c' V4, (Builtin.append_ #[22, 22] 22 #[v, .slice (some ⟨V.heap.size, 0, none⟩) 1 1]).run Tryd.prog (V.alloc (.cells #[.int .u64 p, .slice q k m] 28)) = .ok (.slice q' (txs.length + 1) c') V4 ∧ LAt 48 V4 Bo (gcells t l f v) ∧ (∀ {g ty cs}, ty ≠ 28 → LAt ty V g cs → LAt ty V4 g cs) ∧ XOwn 28 (V4.setCell ⟨Bo, 3, none⟩ (.slice q' (txs.length + 1) c')) B (.slice q' (txs.length + 1) c') (txs ++ [⟨p, ims⟩]) (vs ++ [.slice q k m]) ∧ Below B V V4 ∧ (V.alloc (.cells #[.int .u64 p, .slice q k m] 28)).grownBy V4 v.ownBlock := by
  obtain ⟨i0, hi0, hz0, hz1, hz2⟩ := info_parts infoX
  have h65 : (4000000 : Nat) ≤ maxLen := by decide
  obtain ⟨v', V4, hrun, hown', hgrow, -⟩ := run_append_own (P := Tryd.prog) (V.alloc (.cells #[.int .u64 p, .slice q k m] 28)) B 22 22 28 i0 _ 2 32 Tryd.underlying22 hi0 hz0 hz1 hz2 rfl (by decide) v txs.length _ (h.row.alloc _) ⟨V.heap.size, 0, none⟩ 1 1 [.int .u64 p, .slice q k m] rfl (fun j u hu => by
    rw [Addr.add_mid, Nat.zero_add]; exact (LAt.cell (LAt.new 28 V [.int .u64 p, .slice q k m]) j).trans hu) (fun u hu => by
    simp only [List.mem_cons, List.not_mem_nil, or_false] at hu
    rcases hu with rfl | rfl <;> rfl) (by omega) (by omega) (by simp; omega)
  obtain ⟨g', c', rfl⟩ := ownsRow_succ hown'
  have hlg4 : LAt 48 V4 Bo (gcells t l f v) := lat_grown hlg (by decide) h.row hgrow
  have x4 : ∀ (j : Nat) (y : TX) (u : Value), txs[j]? = some y → vs[j]? = some u → IOwn V4 B u y.ims := fun j y u a b =>
    ((h.each j y u a b).alloc _).kept hgrow (own_ne (h.each j y u a b) h.row (by decide))
  have rowo : ∀ {C ty sz n u xs}, ty ≠ 48 → V4.ownsRow C ty sz u n xs → (V4.setCell ⟨Bo, 3, none⟩ (.slice (some ⟨g', 0, none⟩) (txs.length + 1) c')).ownsRow C ty sz u n xs := by
    intro C ty sz n u xs h1 hr
    refine ⟨hr.1, ?_⟩
    rcases hr.2 with hr | ⟨g, cap, cur, e1, e2, e3, e4⟩
    · exact .inl hr
    · have n1 : g ≠ Bo := fun e => by subst e; have := e3.symm.trans hlg4; simp only [Option.some.injEq, Obj.cells.injEq] at this; exact h1 this.2.1
      exact .inr ⟨g, cap, cur, e1, e2, (heap_setCell_other _ ⟨Bo, 3, none⟩ g _ n1).trans e3, e4⟩
  refine ⟨_, c', V4, hrun, hlg4, fun hne hb => lat_grown hb hne h.row hgrow, ?_, ?_, hgrow⟩
  · refine ⟨by rw [List.length_append, List.length_append, h.len]; rfl, ?_, fun j y u a b => ?_, h.wf.snoc ⟨hp, hw⟩⟩
    · rw [List.map_append, List.zip_append (by rw [List.length_map, h.len]), List.length_append]
      show World.ownsRow _ _ _ _ _ _ (TC ((txs.map (·.p)).zip vs ++ [(p, .slice q k m)]))
      rw [TC_snoc]
      exact rowo (by decide) hown'
    · by_cases cj : j < txs.length
      · rw [List.getElem?_append_left cj] at a
        rw [List.getElem?_append_left (by rw [h.len]; exact cj)] at b
        exact rowo (by decide) (x4 j y u a b)
      · have hj : j = txs.length := by
          have := (List.getElem?_eq_some_iff.1 a).1
          simp only [List.length_append, List.length_singleton] at this
          omega
        subst hj
        rw [List.getElem?_append_right (Nat.le_refl _), Nat.sub_self] at a
        rw [← h.len, List.getElem?_append_right (Nat.le_refl _), Nat.sub_self] at b
        cases a; cases b
        exact rowo (by decide) ((him.alloc _).kept hgrow (own_ne him h.row (by decide)))
  · exact ((Below.refl B V).alloc hB _).grown hgrow (by simp; omega) fun j ej => (h.row.lt j ej).1
theorem results_lat1 {fn : Func} {p : Tmp} {ty : TypeId} (h : fn.results = #[.cell p ty]) (tmps : Array Value) (w : World) (g : Nat) (t : TypeId) (cs : List Value) (d : TypeDesc)
    (hp : tmps.getD p undef = .pointer (some ⟨g, 0, none⟩)) (hg : LAt t w g cs) (hu : Tryd.prog.underlying ty = some d) (hd : d.isRow = true) (hi : (Tryd.prog.info? ty).map (·.size) = some cs.length) :
    (results fn tmps).run Tryd.prog w = .ok (.agg cs.toArray) w := results_cell1 h tmps w g t cs d hp hg hu hd hi
end Go.Proofs.YtefnkjajjidfaaaDoor
