import Derived.Test.YtdadpepfpiimgaaGreatDoorZ03
set_option maxHeartbeats 20000000
set_option maxRecDepth 100000
namespace Go.Proofs.YtdadpepfpiimgaaGreatDoor
open Go.RowKit
theorem part_fill4 (off : Nat) (vs : List Value) (cs : List Value) (h : off + vs.length ≤ cs.length) :
    vs.toArray.zipIdx.foldl (fun cs (x : Value × Nat) => cs.setIfInBounds (off + x.2) x.1) cs.toArray = (cs.take off ++ vs ++ cs.drop (off + vs.length)).toArray := by
  rw [← Array.foldl_toList, Array.toList_zipIdx]
  obtain ⟨h1, h2⟩ := Great.foldl_set off vs 0 cs.toArray
  apply Array.ext_getElem?
  intro k
  have e := h2 k
  simp only [Nat.add_zero, List.size_toArray] at e
  refine Eq.trans e ?_
  rw [List.getElem?_toArray, List.getElem?_toArray]
  by_cases c1 : k < off
  · rw [if_neg (by omega), List.append_assoc, List.getElem?_append_left (by simp; omega), List.getElem?_take, if_pos c1]
  · by_cases c2 : k < off + vs.length
    · rw [if_pos ⟨by omega, c2, by omega⟩, List.append_assoc, List.getElem?_append_right (by simp; omega), List.getElem?_append_left (by simp; omega)]
      congr 1; simp; omega
    · rw [if_neg (by omega), List.getElem?_append_right (by simp; omega), List.getElem?_drop]
      congr 1; simp; omega
theorem places80 : placesOf Tryz.prog 114 = some [(0, 1), (1, 64)] := by kernel_rfl
theorem zero804 : (Tryz.prog.info? 114).bind (·.zero) = some (.agg (.int .i64 0 :: List.replicate 64 (Value.int .u8 0)).toArray) := by kernel_rfl
theorem fill_two4 (ps : List (Nat × Nat)) (cs : List Value) (o0 n0 o1 n1 : Nat) (hp : ps = [(o0, n0), (o1, n1)]) (v0 v1 : Value) (c0 c1 : List Value) (h0 : v0.cells = c0.toArray) (h1 : v1.cells = c1.toArray) (e0 : c0.length = n0) (e1 : c1.length = n1) (ho0 : o0 = 0) (ho1 : n0 = o1) (hl : cs.length = n0 + n1) :
    Instr.fill (ps.toArray[·]?) cs.toArray [(0, v0), (1, v1)] = some (c0 ++ c1).toArray := by
  subst hp ho0 ho1
  have a0 := part_fill4 0 c0 cs (by omega)
  have a1 := part_fill4 n0 c1 (cs.take 0 ++ c0 ++ cs.drop (0 + c0.length)) (by simp; omega)
  simp only [Instr.fill]
  rw [h0, h1]
  simp only [List.size_toArray, List.getElem?_toArray, List.getElem?_cons_zero, List.getElem?_cons_succ]
  rw [if_neg (by simp [e0]; omega)]
  have a0' : c0.toArray.zipIdx.foldl (fun cs x => match x with | (c, j) => cs.setIfInBounds (0 + j) c) cs.toArray = (cs.take 0 ++ c0 ++ cs.drop (0 + c0.length)).toArray := a0
  rw [a0']
  simp only [List.size_toArray]
  rw [if_neg (by simp [e0, e1]; omega)]
  have a1' : c1.toArray.zipIdx.foldl (fun cs x => match x with | (c, j) => cs.setIfInBounds (n0 + j) c) (cs.take 0 ++ c0 ++ cs.drop (0 + c0.length)).toArray = _ := a1
  rw [a1']
  congr 2
  apply List.ext_getElem?
  intro k
  simp only [List.take_zero, List.nil_append, Nat.zero_add]
  rw [List.take_append_of_le_length (by omega), List.take_of_length_le (by omega), List.drop_eq_nil_of_le (by simp; omega), List.append_nil]
theorem built80 (s : Int) (b : List Int) (hb : b.length = 64) : Tryz.prog.built 114 [(0, .int .i64 s), (1, .agg (U8 b).toArray)] = some (.int .i64 s :: U8 b).toArray := by
  rw [built_of 114 _ _ _ places80 zero804]
  exact fill_two4 _ _ 0 1 1 64 rfl _ _ [.int .i64 s] (U8 b) rfl rfl rfl (by rw [U8_length, hb]) rfl rfl (by simp)
theorem run_build80 (w : World) (s : Nat) (b : List Int) (hb : b.length = 64) : (Instr.build 114 #[(0, .int .i64 s), (1, .agg (U8 b).toArray)]).run Tryz.prog w = .ok (.agg (wcell ⟨s, b⟩).toArray) w :=
  run_build w 114 _ _ (built80 s b hb)
def Z80 : Array Value := (.int .i64 0 :: List.replicate 64 (Value.int .u8 0)).toArray
theorem Z80_size : Z80.size = 65 := by simp [Z80]
theorem zv4 (t : TypeId) (z : Value) (hz : (Tryz.prog.info? t).bind (·.zero) = some z) (w : World) : (zeroValue t).run Tryz.prog w = .ok z w := by
  cases hi : Tryz.prog.info? t with
  | none => simp [hi] at hz
  | some it =>
    simp only [hi, Option.bind_some] at hz
    simp [zeroValue, typeInfo, hi, hz]
theorem run_alloc80 (w : World) : (Instr.alloc 114 true (.tuple #[])).run Tryz.prog w = .ok (.pointer (some ⟨w.heap.size, 0, none⟩)) (w.alloc (.cells Z80 114)) := by
  simp only [Instr.alloc, Sem.run_bind, zv4 114 _ zero804, Result.andThen_ok]
  simp [newVar, newRow, Value.cells, Z80]
theorem world_ext4 : ∀ (u v : World), u.heap = v.heap → u.tape = v.tape → u.drawn = v.drawn → u.os = v.os → u.output = v.output → u = v
  | ⟨_, _, _, _, _⟩, ⟨_, _, _, _, _⟩, h1, h2, h3, h4, h5 => by
    simp only at h1 h2 h3 h4 h5
    subst h1 h2 h3 h4 h5
    rfl
theorem setRow_alloc4 (w : World) (a b : Array Value) (t : TypeId) : (w.alloc (.cells a t)).setRow w.heap.size b = w.alloc (.cells b t) := by
  refine world_ext4 _ _ ?_ rfl rfl rfl rfl
  apply Array.ext_getElem?
  intro k
  by_cases c : k = w.heap.size
  · subst c
    rw [setRow_heap _ _ a b t (0, 0) (heap_alloc_new w _), heap_alloc_new]
  · have e1 : ((w.alloc (.cells a t)).setRow w.heap.size b).heap[k]? = (w.alloc (.cells a t)).heap[k]? := by
      simp only [World.setRow, Array.getElem?_modify]
      rw [if_neg (fun h => c h.symm)]
    rw [e1]
    show (w.heap.push _)[k]? = (w.heap.push _)[k]?
    rw [Array.getElem?_push, Array.getElem?_push, if_neg c, if_neg c]
theorem run_store_new (w : World) (t : TypeId) (Z cs : Array Value) (hz : Z.size = cs.size) (hi : (Tryz.prog.info? t).map (·.size) = some cs.size) (h1 : cs.all (·.oneCell') = true) :
    (Instr.storeAt t (.pointer (some ⟨w.heap.size, 0, none⟩)) (.agg cs)).run Tryz.prog (w.alloc (.cells Z t)) = .ok () (w.alloc (.cells cs t)) := by
  simp only [Instr.storeAt, Instr.sureAddr, Sem.run_bind, Sem.run_pure, Result.andThen_ok, run_storeVar_row (w.alloc (.cells Z t)) w.heap.size t t Z cs (heap_alloc_new w _) hi hz h1, setRow_alloc4]
theorem wc_ones (x : Wr) : (wcell x).toArray.all (·.oneCell') = true := all_oneCell_toArray (wcell_ones x)
theorem u8_ones (b : List Int) : (U8 b).toArray.all (·.oneCell') = true := all_oneCell_toArray (ones_u8 b)
theorem run_store80 (w : World) (x : Wr) (hx : x.b.length = 64) : (Instr.storeAt 114 (.pointer (some ⟨w.heap.size, 0, none⟩)) (.agg (wcell x).toArray)).run Tryz.prog (w.alloc (.cells Z80 114)) = .ok () (w.alloc (.cells (wcell x).toArray 114)) :=
  run_store_new w 114 Z80 _ (by simp [Z80_size, wcell, hx]) (by rw [size80]; simp [wcell, hx]) (wc_ones x)
theorem run_buildSlice73 (w : World) (x : Wr) (hx : x.b.length = 64) : (Instr.buildSlice 103 1 #[(0, .agg (wcell x).toArray)]).run Tryz.prog w = .ok (.slice (some ⟨w.heap.size, 0, none⟩) 1 1) (w.alloc (.cells (wcell x).toArray 114)) := by
  obtain ⟨i0, hi, hz0, hz1, hz2⟩ := info_parts info80
  refine run_buildSlice w 103 114 1 _ _ i0 _ Tryz.underlying103 hi hz0 (by rw [hz1]; decide) (by rw [hz1]; decide) ?_
  rw [hz1]
  have hl : (wcell x).length = 65 := by simp [wcell, hx]
  have hA : ∀ A : Array Value, A.size = 65 → Instr.fill (fun i => some (i * 65, 65)) A [(0, .agg (wcell x).toArray)] = some (wcell x).toArray := by
    intro A hA
    have a0 := part_fill4 0 (wcell x) A.toList (by simp; omega)
    simp only [Instr.fill, Value.cells, List.size_toArray, Nat.zero_mul]
    rw [if_neg (by simp [hl, hA])]
    have a0' : (wcell x).toArray.zipIdx.foldl (fun cs x => match x with | (c, j) => cs.setIfInBounds (0 + j) c) A = ((A.toList.take 0 ++ wcell x ++ A.toList.drop (0 + (wcell x).length))).toArray := a0
    rw [a0', List.drop_eq_nil_of_le (by simp [hl, hA])]
    simp
  exact hA _ (by simp)
theorem wp_val {o : Oper} {a : Act} {w w' : World} {v : Value} {K : Act → World → Prop} {Q : Exit → Act → World → Prop} (heq : (execOp a.eval o).run Tryz.prog w = .ok (.value v) w') (h : K (a.put o.dst v) w') : o.wp Tryz.prog a w K Q := by
  unfold Oper.wp; rw [heq]; exact h
theorem wp_skip' {o : Oper} {a : Act} {w w' : World} {K : Act → World → Prop} {Q : Exit → Act → World → Prop} (heq : (execOp a.eval o).run Tryz.prog w = .ok .skip w') (h : K (a.put o.dst undef) w') : o.wp Tryz.prog a w K Q := by
  unfold Oper.wp; rw [heq]; exact h
theorem wpList_alloc80 {ops : Array Oper} {rest : List Oper} {o : Oper} {a : Act} {w : World} {Q : Exit → Act → World → Prop} (hgd : o.guard = none) (ho : o.op = .alloc 114)
    (h : wpList Tryz.prog ops Q rest (a.put o.dst (.pointer (some ⟨w.heap.size, 0, none⟩))) (w.alloc (.cells Z80 114))) : wpList Tryz.prog ops Q (o :: rest) a w :=
  wpList_plain hgd fun _ hK => wp_val (by unfold execOp; simp only [ho, Sem.run_bind, run_alloc80, Result.andThen_ok, Sem.run_pure]) (hK _ _ h)
theorem wpList_build80 {ops : Array Oper} {rest : List Oper} {o : Oper} {a : Act} {w : World} {Q : Exit → Act → World → Prop} (hgd : o.guard = none) (x y : Operand) (ho : o.op = .build 114 #[(0, x), (1, y)]) (s : Nat) (b : List Int) (hx : a.eval x = .int .i64 s) (hy : a.eval y = .agg (U8 b).toArray) (hb : b.length = 64)
    (h : wpList Tryz.prog ops Q rest (a.put o.dst (.agg (wcell ⟨s, b⟩).toArray)) w) : wpList Tryz.prog ops Q (o :: rest) a w :=
  wpList_plain hgd fun _ hK => wp_val (by
    have e : (#[(0, x), (1, y)] : Array (Nat × Operand)).map (fun (i, x) => (i, a.eval x)) = #[(0, a.eval x), (1, a.eval y)] := by simp
    unfold execOp; simp only [ho]; rw [e, hx, hy]; simp only [Sem.run_bind, run_build80 w s b hb, Result.andThen_ok, Sem.run_pure]) (hK _ _ h)
theorem wpList_store80 {ops : Array Oper} {rest : List Oper} {o : Oper} {a : Act} {w : World} {Q : Exit → Act → World → Prop} (hgd : o.guard = none) (x y : Operand) (ho : o.op = .store 114 x y) (z : Wr) (hx : a.eval x = .pointer (some ⟨w.heap.size, 0, none⟩)) (hy : a.eval y = .agg (wcell z).toArray) (hz : z.b.length = 64)
    (h : wpList Tryz.prog ops Q rest (a.put o.dst undef) (w.alloc (.cells (wcell z).toArray 114))) : wpList Tryz.prog ops Q (o :: rest) a (w.alloc (.cells Z80 114)) :=
  wpList_plain hgd fun _ hK => wp_skip' (by unfold execOp; simp only [ho, hx, hy, Sem.run_bind, run_store80 w z hz, Result.andThen_ok, Sem.run_pure]) (hK _ _ h)
theorem wp_buildSlice73 {o : Oper} {a : Act} {w : World} {K : Act → World → Prop} {Q : Exit → Act → World → Prop} (x : Operand) (ho : o.op = .buildSlice 103 1 #[(0, x)]) (z : Wr) (hx : a.eval x = .agg (wcell z).toArray) (hz : z.b.length = 64)
    (h : K (a.put o.dst (.slice (some ⟨w.heap.size, 0, none⟩) 1 1)) (w.alloc (.cells (wcell z).toArray 114))) : o.wp Tryz.prog a w K Q :=
  wp_val (by
    have e : (#[(0, x)] : Array (Nat × Operand)).map (fun (i, x) => (i, a.eval x)) = #[(0, a.eval x)] := by simp
    unfold execOp; simp only [ho]; rw [e, hx]; simp only [Sem.run_bind, run_buildSlice73 w z hz, Result.andThen_ok, Sem.run_pure]) h
theorem new_range (w : World) (cs : List Value) (t : TypeId) : (w.alloc (.cells cs.toArray t)).rangeAt w.heap.size 0 cs := fun j v hv => by
  rw [cell_of_row _ _ _ _ t (0, 0) (heap_alloc_new w _), Nat.zero_add, List.getElem?_toArray]; exact hv
theorem new_range_at (w : World) (cs ds : List Value) (o : Nat) (t : TypeId) (h : ∀ j v, ds[j]? = some v → cs[o + j]? = some v) : (w.alloc (.cells cs.toArray t)).rangeAt w.heap.size o ds := fun j v hv => by
  rw [cell_of_row _ _ _ _ t (0, 0) (heap_alloc_new w _), List.getElem?_toArray]; exact h j v hv
theorem wcell_data (x : Wr) : ∀ j v, (U8 x.b)[j]? = some v → (wcell x)[1 + j]? = some v := fun j v hv => by
  rw [Nat.add_comm]; simpa [wcell] using hv
theorem BIn.range {w : World} {g o n : Nat} {b : List Int} (h : BIn w (some ⟨g, o, none⟩) n b) : w.rangeAt g o (U8 b) := fun j v hv => by
  have := h.news j v hv
  rwa [Addr.add_mid] at this
end Go.Proofs.YtdadpepfpiimgaaGreatDoor
namespace Go.Proofs.YtdadpepfpiimgaaGreatDoor
open Go.RowKit
theorem setCell_row {w : World} {g t : Nat} {cs : List Value} (h : w.heap[g]? = some (.cells cs.toArray t (0, 0))) (j : Nat) (v : Value) : (w.setCell ⟨g, j, none⟩ v).heap[g]? = some (.cells (cs.set j v).toArray t (0, 0)) := by
  rw [heap_setCell_same w g j cs.toArray t v h]; simp
structure HalfW (w w3 : World) (S : Nat → Prop) (p n : Nat) (d : List Int) (ws : List Wr) (X : Wr) (q cap : Nat) (v : Value) : Prop where
  str : w3.heap[p]? = some (.cells #[.slice (some ⟨q, 0, none⟩) n cap, v] 105 (0, 0))
  pl : Pl w3 q n cap (sec d) (newest ws d)
  wt : w3.ownsRow 0 114 65 v (ws.length + 1) (WC (ws ++ [X]))
  sv : ∀ k, v.ownBlock = some k → More S w k
  rg : w3.rangeAt w.heap.size 1 (U8 X.b)
  kp : Kept S w w3
theorem half_of {w w2 : World} {S : Nat → Prop} {p n : Nat} {d : List Int} {ws : List Wr} {X : Wr} {q cap : Nat} {v : Value} {g cap' : Nat} {ob : Obj}
    (hp : PD w S p n d ws q cap v) (hown : w2.ownsRow 0 114 65 (.slice (some ⟨g, 0, none⟩) (ws.length + 1) cap') (ws.length + 1) (WC ws ++ wcell X))
    (hgrow : ((w.alloc (.cells (wcell X).toArray 114)).alloc ob).grownBy w2 v.ownBlock) (hat : v.ownBlock = some g ∨ g = w.heap.size + 2) :
    w2.rangeAt w.heap.size 0 (wcell X) ∧ w2.cell? ⟨p, 1, none⟩ = some v ∧ w2.frozen? ⟨p, 1, none⟩ = false ∧ (w2.setCell ⟨p, 1, none⟩ (.slice (some ⟨g, 0, none⟩) (ws.length + 1) cap')).rangeAt w.heap.size 0 (wcell X) ∧
    HalfW w (w2.setCell ⟨p, 1, none⟩ (.slice (some ⟨g, 0, none⟩) (ws.length + 1) cap')) S p n d ws X q cap (.slice (some ⟨g, 0, none⟩) (ws.length + 1) cap') := by
  have h1 := (hp.later (below_alloc w (.cells (wcell X).toArray 114)))
  have h2 := h1.later (below_alloc _ ob)
  have hlp := hp.blk.lt
  have hlq := hp.pl.blk.lt
  have hsz : ((w.alloc (.cells (wcell X).toArray 114)).alloc ob).heap.size = w.heap.size + 2 := by simp
  have hv : ∀ k, v.ownBlock = some k → k < w.heap.size := fun k hk => (own_ownBlk hp.wt hk).elim fun _ hb => hb.lt
  have bp : w2.heap[p]? = some (.cells #[.slice (some ⟨q, 0, none⟩) n cap, v] 105 (0, 0)) := (hgrow.block p (by omega) (fun e => (h2.pv p e.symm).1 rfl)).trans h2.str
  have bq : w2.heap[q]? = ((w.alloc (.cells (wcell X).toArray 114)).alloc ob).heap[q]? := hgrow.block q (by omega) (fun e => (h2.pv q e.symm).2 rfl)
  have bx : w2.heap[w.heap.size]? = (w.alloc (.cells (wcell X).toArray 114)).heap[w.heap.size]? :=
    (hgrow.block w.heap.size (by omega) (fun e => by have := hv _ e.symm; omega)).trans (Below.heap_alloc _ ob _ (by simp))
  have r2 : w2.rangeAt w.heap.size 0 (wcell X) := rangeAt_same (new_range w _ 114) bx
  have hgp : g ≠ p := (own_blk hown).1.ne ⟨_, bp, rfl⟩ (by decide)
  have bx3 : (w2.setCell ⟨p, 1, none⟩ (.slice (some ⟨g, 0, none⟩) (ws.length + 1) cap')).heap[w.heap.size]? = w2.heap[w.heap.size]? := heap_setCell_other _ _ _ _ (by show w.heap.size ≠ p; omega)
  refine ⟨r2, ?_, frozen_of_row _ _ _ _ 105 bp, rangeAt_same r2 bx3, ?_⟩
  · rw [cell_of_row _ _ _ _ 105 (0, 0) bp]; rfl
  refine ⟨setCell_row (cs := [_, _]) bp 1 _, ?_, ?_, ?_, ?_, ?_⟩
  · exact (h2.pl.same bq).same (heap_setCell_other _ _ _ _ (fun e => hp.pq e.symm))
  · rw [WC_snoc]
    exact own_same hown (fun k hk => heap_setCell_other _ _ _ _ (fun e => hgp (by simp only [Value.ownBlock, Option.some.injEq] at hk; rw [hk]; exact e)))
  · intro k hk
    simp only [Value.ownBlock, Option.some.injEq] at hk
    subst hk
    rcases hat with hat | hat
    · exact .inl (hp.sv _ hat)
    · right; omega
  · refine rangeAt_same (w := w2) ?_ bx3
    exact rangeAt_same (new_range_at w _ _ 1 114 (wcell_data X)) bx
  · refine Kept.setCell ?_ (fun _ => hp.sp) _
    exact (((Kept.refl S w).alloc _).alloc _).grown hgrow (fun k hk _ => hp.sv k hk)
theorem HalfW.done {w w3 : World} {S : Nat → Prop} {p n : Nat} {d : List Int} {ws : List Wr} {X : Wr} {q cap : Nat} {v v0 : Value} (h : HalfW w w3 S p n d ws X q cap v) (hp : PD w S p n d ws q cap v0) (hs : X.s < n) (hb : X.b.length = 64) (hy : Bytes X.b) :
    Dsk (w3.setCells q (X.s * 128 + 64) (U8 X.b)) (More S w) p n d (ws ++ [X]) ∧ Kept S w (w3.setCells q (X.s * 128 + 64) (U8 X.b)) := by
  have hb3 : Blk w3 p 105 2 := ⟨_, h.str, rfl⟩
  have hpq : p ≠ q := hb3.ne h.pl.blk (by decide)
  have ho : ∀ k, k ≠ q → (w3.setCells q (X.s * 128 + 64) (U8 X.b)).heap[k]? = w3.heap[k]? := fun k hk => setCells_other hk _ _ _
  refine ⟨⟨q, cap, v, ?_⟩, Kept.setCells (fun _ => hp.sq) _ _ _ h.kp⟩
  refine ⟨(ho p hpq).trans h.str, ?_, own_same (by rw [List.length_append, List.length_singleton]; exact h.wt) (fun k hk => ?_), .inl hp.sp, .inl hp.sq, h.sv, hp.n1, hp.n2, hp.dl, hp.db, hp.fit.snoc hs hb hy⟩
  · refine (h.pl.setN X.b hb hs).congr (fun i _ => rfl) (fun i _ => ?_)
    rw [newest_snoc ws d i X.s X.b]
  · obtain ⟨sz, hk'⟩ := own_ownBlk h.wt hk
    exact ho k (hk'.ne h.pl.blk (by decide))
set_option maxHeartbeats 2000000 in
set_option maxRecDepth 100000 in
theorem write_good {w : World} {S : Nat → Prop} {p n : Nat} {d : List Int} {ws : List Wr} (h : Dsk w S p n d ws) (i : Nat) (hi : i < n) (a : Option Addr) (c : Nat) (b : List Int) (hb : BIn w a 64 b) (hk : ws.length ≤ 100000) : Calls Tryz.prog 64 #[.pointer (some ⟨p, 0, none⟩), .int .i64 i, .slice a 64 c] w fun e w' => e = .returned (.int .i64 0) ∧ Dsk w' (More S w) p n d (ws ++ [⟨i, b⟩]) ∧ Kept S w w' := by
  obtain ⟨q, cap, v, h⟩ := h
  have h0 := h.cell0
  obtain ⟨g, o, rfl, _⟩ := hb.cells (by omega)
  have HR : Hid (w.rangeAt g o (U8 b)) := hb.range
  have HH : Hid (PD w S p n d ws q cap v) := h
  have hat : ∀ w, (Instr.arrayAt 107 (.slice (some ⟨g, o, none⟩) 64 c)).run Tryz.prog w = .ok (.pointer (some ⟨g, o, none⟩)) w := fun w => run_arrayAt w 107 _ 64 _ 64 c Tryz.underlying107 (by omega)
  have HL : Hid (b.length = 64) := hb.len
  have HI : Hid ((Tryz.prog.info? 107).map (·.size) = some (U8 b).length) := by show _ = _; rw [U8_length, HL.out]; exact size69
  have HY : Hid (Bytes b) := hb.byte
  clear h hb
  go_enter Tryz.func64, Tryz.ntmps64
  go_wp2_with fail
  refine (refuses_any i w p n q cap h0).mono ?_
  rintro e w1 ⟨rfl, rfl⟩
  rw [refS, if_pos (by omega)]
  go_wp2_with (first | (refine wpList_load_mid (by rfl) 107 (.tmp 20) (by rfl) g o (by rfl) (U8 b) _ HR.out Tryz.underlying107 rfl HI.out ?_) | (refine wpList_build80 (by rfl) (.tmp 18) (.tmp 21) (by rfl) i b (by rfl) (by rfl) HL.out ?_) | (refine wpList_alloc80 (by rfl) (by rfl) ?_) | (refine wpList_store80 (by rfl) (.tmp 8) (.tmp 22) (by rfl) ⟨i, b⟩ (by rfl) (by rfl) HL.out ?_))
  simp only [Act.put, List.setIfInBounds_toArray, List.set_cons_zero, List.set_cons_succ]
  obtain ⟨X, hX⟩ : ∃ X, Wr.mk i b = X := ⟨_, rfl⟩
  have HXl : Hid (X.b.length = 64) := by rw [← hX]; exact HL.out
  have HXb : Hid (X.s = i ∧ X.b = b) := by rw [← hX]; exact ⟨rfl, rfl⟩
  rw [hX]
  have r0 : (w.alloc (.cells (wcell X).toArray 114)).rangeAt w.heap.size 0 (wcell X) := new_range w _ 114
  have hsz : (w.alloc (.cells (wcell X).toArray 114)).heap.size = w.heap.size + 1 := by simp
  have hp1 : PD (w.alloc (.cells (wcell X).toArray 114)) S p n d ws q cap v := HH.out.later (below_alloc w _)
  have hK0 : Kept S w (w.alloc (.cells (wcell X).toArray 114)) := Kept.of_below (below_alloc w _)
  obtain ⟨W, hW⟩ : ∃ W, w.alloc (.cells (wcell X).toArray 114) = W := ⟨_, rfl⟩
  rw [hW] at r0 hsz hp1 hK0 ⊢
  have HW : Hid (w.alloc (.cells (wcell X).toArray 114) = W) := hW
  clear hW
  obtain ⟨i0, hi0, hz0, hz1, hz2⟩ := info_parts info80
  have c1 := hp1.cell1
  have c2 : ∀ ob, (W.alloc ob).cell? ⟨p, 1, none⟩ = some v := fun ob => (hp1.later (below_alloc W ob)).cell1
  refine wp_region_noPanic ?_
  refine wp_region_held_drew (S := (fun w' => w'.rangeAt w.heap.size 0 (wcell X))) (by kernel_rfl) r0 (fun hHeld => ?_)
  refine wpAnyH_take (i := 0) (v := ?v0) (by simp; rfl) (by kernel_rfl) (by kernel_rfl) (by kernel_rfl) (fun _ _ _ h => h) (Or.inl ⟨by rfl, ?y0⟩) hHeld ?r0
  case y0 => intro w hSw; go_simp; with_reducible rfl
  simp only [Act.put, List.setIfInBounds_toArray, List.set_cons_zero, List.set_cons_succ]
  refine wpAnyH_take (i := 1) (v := ?v1) (by simp; rfl) (by kernel_rfl) (by kernel_rfl) (by kernel_rfl) (fun _ _ _ h => h) (Or.inl ⟨by rfl, ?y1⟩) hHeld ?r1
  case y1 => intro w hSw; go_simp; with_reducible rfl
  simp only [Act.put, List.setIfInBounds_toArray, List.set_cons_zero, List.set_cons_succ]
  refine wpAnyH_take (i := 2) (v := ?v2) (by simp; rfl) (by kernel_rfl) (by kernel_rfl) (by kernel_rfl) (fun _ _ _ h => h) (Or.inl ⟨by rfl, ?y2⟩) hHeld ?r2
  case y2 => intro w hSw; go_simp; with_reducible rfl
  simp only [Act.put, List.setIfInBounds_toArray, List.set_cons_zero, List.set_cons_succ]
  refine wpAnyH_take (i := 3) (v := ?v3) (by simp; rfl) (by kernel_rfl) (by kernel_rfl) (by kernel_rfl) (fun _ _ _ h => h) (Or.inl ⟨by rfl, ?y3⟩) hHeld ?r3
  case y3 => intro w hSw; go_simp; with_reducible rfl
  simp only [Act.put, List.setIfInBounds_toArray, List.set_cons_zero, List.set_cons_succ]
  refine wpAnyH_take (i := 5) (v := _) (by simp; rfl) (by kernel_rfl) (by kernel_rfl) (by kernel_rfl) (fun _ _ _ h => h) (yieldsIf_load_mid (by rfl) 114 (.tmp 8) rfl w.heap.size 0 rfl (wcell X) _ (fun _ h => h) Tryz.underlying114 rfl (by rw [size80]; simp [wcell, HXl.out])) hHeld ?_
  simp only [Act.put, List.setIfInBounds_toArray, List.set_cons_zero, List.set_cons_succ]
  refine wpAnyH_ready (rs := [4, 6]) (by kernel_rfl) (by simp) ?_
  refine AllReadyH.cons (by simp; rfl) (fun K hK => ?_) (AllReadyH.cons (by simp; rfl) (fun K hK => ?_) AllReadyH.nil)
  · go_simp
    refine hK.out _ _ hHeld (fun hHeld => ?_)
    clear hK K
    refine wpAnyH_ready (rs := [6]) (by kernel_rfl) (by simp) ?_
    refine AllReadyH.cons (by simp; rfl) (fun K hK => ?_) AllReadyH.nil
    rw [if_pos (by rfl)]
    refine wp_buildSlice73 (.tmp 28) rfl X rfl HXl.out ?_
    refine hK.out _ _ (World.rangeAt_alloc hHeld _) (fun hHeld => ?_)
    clear hK K
    simp only [Act.put, List.setIfInBounds_toArray, List.set_cons_zero, List.set_cons_succ]
    have e0 : W.drew.heap.size = w.heap.size + 1 := hsz
    simp only [e0, World.alloc_drew]
    refine wpAnyH_ready (rs := [7]) (by kernel_rfl) (by simp) ?_
    refine AllReadyH.cons (by simp; rfl) (fun K hK => ?_) AllReadyH.nil
    refine step_append_lies _ rfl (.tmp 27) (.tmp 29) 103 rfl 0 114 i0 _ 65 72 Tryz.underlying103 hi0 hz0 hz1 hz2 (by simp [Value.cells]) (by omega) v ws.length (WC ws) rfl (own_same (hp1.later (below_alloc W (.cells (wcell X).toArray 114))).wt (fun _ _ => rfl)) ⟨w.heap.size + 1, 0, none⟩ 1 1 (wcell X) rfl (by simp [wcell, HXl.out]) ?_ (wcell_ones X) (by omega) (by unfold maxLen; omega) (by omega) (Nat.zero_le _) (w.heap.size + 2) (by simp [hsz]) ?_
    · intro j u hu
      have e := new_range W (wcell X) 114 j u hu
      rw [hsz] at e
      rw [Addr.add_mid]
      exact e
    intro g2 cap2 w2 hown hgrow hat2 hlt
    rw [← HW.out] at hgrow
    obtain ⟨s1, s2, s3, s4, s5⟩ := half_of (ob := .cells (wcell X).toArray 114) HH.out hown ⟨hgrow.os, hgrow.tape, hgrow.output, hgrow.size, hgrow.block⟩ (or_map hat2 id id)
    refine hK.out _ _ s1 (fun hHeld => ?_)
    clear hK K
    simp only [Act.put, List.setIfInBounds_toArray, List.set_cons_zero, List.set_cons_succ]
    refine wpAnyH_take (i := 8) (v := ?v8) (by simp; rfl) (by kernel_rfl) (by kernel_rfl) (by kernel_rfl) (fun _ _ _ h => h) (Or.inl ⟨by rfl, ?y8⟩) hHeld ?r8
    case y8 => intro w hSw; go_simp; with_reducible rfl
    simp only [Act.put, List.setIfInBounds_toArray, List.set_cons_zero, List.set_cons_succ]
    refine wpAnyH_take (i := 9) (v := ?v9) (by simp; rfl) (by kernel_rfl) (by kernel_rfl) (by kernel_rfl) (fun _ _ _ h => h) (Or.inl ⟨by rfl, ?y9⟩) hHeld ?r9
    case y9 => intro w hSw; go_simp; with_reducible rfl
    simp only [Act.put, List.setIfInBounds_toArray, List.set_cons_zero, List.set_cons_succ]
    refine wpAnyH_ready (rs := [10]) (by kernel_rfl) (by simp) ?_
    refine AllReadyH.cons (by simp; rfl) (fun K hK => ?_) AllReadyH.nil
    go_simp
    refine hK.out _ _ s4 (fun hHeld => ?_)
    clear hK K
    refine wpAnyH_done (by kernel_rfl) (NoPanic.normal ?_) _
    have t0 : (w2.setCell ⟨p, 1, none⟩ (.slice (some ⟨g2, 0, none⟩) (ws.length + 1) cap2)).cell? ⟨p, 0, none⟩ = some (.slice (some ⟨q, 0, none⟩) n cap) := by
      rw [cell_of_row _ _ _ _ 105 (0, 0) s5.str]; rfl
    have t1 := s5.rg
    rw [HXb.out.2] at t1
    have t2 : (w2.setCell ⟨p, 1, none⟩ (.slice (some ⟨g2, 0, none⟩) (ws.length + 1) cap2)).there q (i * 128 + 64) 64 := s5.pl.blk.there _ _ (by have := s5.pl.ncap; omega)
    have HD : Hid (Dsk ((w2.setCell ⟨p, 1, none⟩ (.slice (some ⟨g2, 0, none⟩) (ws.length + 1) cap2)).setCells q (i * 128 + 64) (U8 b)) (More S w) p n d (ws ++ [X]) ∧ Kept S w ((w2.setCell ⟨p, 1, none⟩ (.slice (some ⟨g2, 0, none⟩) (ws.length + 1) cap2)).setCells q (i * 128 + 64) (U8 b))) := by
      have := s5.done HH.out (by rw [HXb.out.1]; exact hi) HXl.out (by rw [HXb.out.2]; exact HY.out)
      rw [HXb.out.1, HXb.out.2] at this
      exact this
    have hqs : w.heap.size ≠ q := by have := HH.out.pl.blk.lt; omega
    have hpq : p ≠ q := HH.out.pq
    obtain ⟨w3, hw3⟩ : ∃ w3, w2.setCell ⟨p, 1, none⟩ (.slice (some ⟨g2, 0, none⟩) (ws.length + 1) cap2) = w3 := ⟨_, rfl⟩
    rw [hw3] at t0 t1 t2 HD ⊢
    clear hw3 s1 s2 s3 s4 s5 hown hgrow hat2 hlt hHeld
    go_wp2
    have hu := Tryz.underlying107
    have hi69 := HI.out
    have hl69 : (U8 b).length = 64 := by rw [U8_length]; exact HL.out
    have hu1 := ones_u8 b
    have k0 : (w3.drew.setCells q (i * 128 + 64) (U8 b)).cell? ⟨p, 0, none⟩ = some (.slice (some ⟨q, 0, none⟩) n cap) := by
      rw [World.cell?_setCells_out _ _ _ _ _ (fun e => absurd e hpq)]; exact t0
    have k1 : (w3.drew.setCells q (i * 128 + 64) (U8 b)).rangeAt w.heap.size 1 (U8 b) := World.rangeAt_setCells_apart (w := w3.drew) t1 _ _ _ (Or.inl hqs)
    have k2 : (w3.drew.setCells q (i * 128 + 64) (U8 b)).there q (i * 128 + 64) 64 := World.there_setCells (w := w3.drew) t2 _ _ _
    have i0' : (0 : Int) ≤ (i : Int) := by omega
    have i1' : (i : Int) < (n : Int) := by omega
    go_region_held3 (fun w' => w'.cell? ⟨p, 0, none⟩ = some (.slice (some ⟨q, 0, none⟩) n cap) ∧ w'.rangeAt w.heap.size 1 (U8 b) ∧ w'.there q (i * 128 + 64) 64) (first | exact ⟨t0, t1, t2⟩ | exact ⟨k0, k1, k2⟩) (fail)
    clear hu hi69 hl69 hu1 k0 k1 k2
    rw [setCells_drew]
    go_wp2
    go_ret
    rw [hX]
    exact ⟨rfl, HD.out.1.later ⟨rfl, rfl, rfl, Nat.le_refl _, fun _ _ => rfl⟩, HD.out.2.drew⟩
  · rw [if_pos (by rfl)]
    refine wp_buildSlice73 (.tmp 28) rfl X rfl HXl.out ?_
    refine hK.out _ _ (World.rangeAt_alloc hHeld _) (fun hHeld => ?_)
    clear hK K
    simp only [Act.put, List.setIfInBounds_toArray, List.set_cons_zero, List.set_cons_succ]
    refine wpAnyH_ready (rs := [4]) (by kernel_rfl) (by simp) ?_
    refine AllReadyH.cons (by simp; rfl) (fun K hK => ?_) AllReadyH.nil
    have c3 := c2 (.cells (wcell X).toArray 114)
    go_simp
    refine hK.out _ _ hHeld (fun hHeld => ?_)
    clear hK K
    refine wpAnyH_ready (rs := [7]) (by kernel_rfl) (by simp) ?_
    refine AllReadyH.cons (by simp; rfl) (fun K hK => ?_) AllReadyH.nil
    refine step_append_lies _ rfl (.tmp 27) (.tmp 29) 103 rfl 0 114 i0 _ 65 72 Tryz.underlying103 hi0 hz0 hz1 hz2 (by simp [Value.cells]) (by omega) v ws.length (WC ws) rfl (own_same (hp1.later (below_alloc W (.cells (wcell X).toArray 114))).wt (fun _ _ => rfl)) ⟨w.heap.size + 1, 0, none⟩ 1 1 (wcell X) rfl (by simp [wcell, HXl.out]) ?_ (wcell_ones X) (by omega) (by unfold maxLen; omega) (by omega) (Nat.zero_le _) (w.heap.size + 2) (by simp [hsz]) ?_
    · intro j u hu
      have e := new_range W (wcell X) 114 j u hu
      rw [hsz] at e
      rw [Addr.add_mid]
      exact e
    intro g2 cap2 w2 hown hgrow hat2 hlt
    rw [← HW.out] at hgrow
    obtain ⟨s1, s2, s3, s4, s5⟩ := half_of (ob := .cells (wcell X).toArray 114) HH.out hown ⟨hgrow.os, hgrow.tape, hgrow.output, hgrow.size, hgrow.block⟩ (or_map hat2 id id)
    refine hK.out _ _ s1 (fun hHeld => ?_)
    clear hK K
    simp only [Act.put, List.setIfInBounds_toArray, List.set_cons_zero, List.set_cons_succ]
    refine wpAnyH_take (i := 8) (v := ?v8b) (by simp; rfl) (by kernel_rfl) (by kernel_rfl) (by kernel_rfl) (fun _ _ _ h => h) (Or.inl ⟨by rfl, ?y8b⟩) hHeld ?r8b
    case y8b => intro w hSw; go_simp; with_reducible rfl
    simp only [Act.put, List.setIfInBounds_toArray, List.set_cons_zero, List.set_cons_succ]
    refine wpAnyH_take (i := 9) (v := ?v9b) (by simp; rfl) (by kernel_rfl) (by kernel_rfl) (by kernel_rfl) (fun _ _ _ h => h) (Or.inl ⟨by rfl, ?y9b⟩) hHeld ?r9b
    case y9b => intro w hSw; go_simp; with_reducible rfl
    simp only [Act.put, List.setIfInBounds_toArray, List.set_cons_zero, List.set_cons_succ]
    refine wpAnyH_ready (rs := [10]) (by kernel_rfl) (by simp) ?_
    refine AllReadyH.cons (by simp; rfl) (fun K hK => ?_) AllReadyH.nil
    go_simp
    refine hK.out _ _ s4 (fun hHeld => ?_)
    clear hK K
    refine wpAnyH_done (by kernel_rfl) (NoPanic.normal ?_) _
    have t0 : (w2.setCell ⟨p, 1, none⟩ (.slice (some ⟨g2, 0, none⟩) (ws.length + 1) cap2)).cell? ⟨p, 0, none⟩ = some (.slice (some ⟨q, 0, none⟩) n cap) := by
      rw [cell_of_row _ _ _ _ 105 (0, 0) s5.str]; rfl
    have t1 := s5.rg
    rw [HXb.out.2] at t1
    have t2 : (w2.setCell ⟨p, 1, none⟩ (.slice (some ⟨g2, 0, none⟩) (ws.length + 1) cap2)).there q (i * 128 + 64) 64 := s5.pl.blk.there _ _ (by have := s5.pl.ncap; omega)
    have HD : Hid (Dsk ((w2.setCell ⟨p, 1, none⟩ (.slice (some ⟨g2, 0, none⟩) (ws.length + 1) cap2)).setCells q (i * 128 + 64) (U8 b)) (More S w) p n d (ws ++ [X]) ∧ Kept S w ((w2.setCell ⟨p, 1, none⟩ (.slice (some ⟨g2, 0, none⟩) (ws.length + 1) cap2)).setCells q (i * 128 + 64) (U8 b))) := by
      have := s5.done HH.out (by rw [HXb.out.1]; exact hi) HXl.out (by rw [HXb.out.2]; exact HY.out)
      rw [HXb.out.1, HXb.out.2] at this
      exact this
    have hqs : w.heap.size ≠ q := by have := HH.out.pl.blk.lt; omega
    have hpq : p ≠ q := HH.out.pq
    obtain ⟨w3, hw3⟩ : ∃ w3, w2.setCell ⟨p, 1, none⟩ (.slice (some ⟨g2, 0, none⟩) (ws.length + 1) cap2) = w3 := ⟨_, rfl⟩
    rw [hw3] at t0 t1 t2 HD ⊢
    clear hw3 s1 s2 s3 s4 s5 hown hgrow hat2 hlt hHeld
    go_wp2
    have hu := Tryz.underlying107
    have hi69 := HI.out
    have hl69 : (U8 b).length = 64 := by rw [U8_length]; exact HL.out
    have hu1 := ones_u8 b
    have k0 : (w3.drew.setCells q (i * 128 + 64) (U8 b)).cell? ⟨p, 0, none⟩ = some (.slice (some ⟨q, 0, none⟩) n cap) := by
      rw [World.cell?_setCells_out _ _ _ _ _ (fun e => absurd e hpq)]; exact t0
    have k1 : (w3.drew.setCells q (i * 128 + 64) (U8 b)).rangeAt w.heap.size 1 (U8 b) := World.rangeAt_setCells_apart (w := w3.drew) t1 _ _ _ (Or.inl hqs)
    have k2 : (w3.drew.setCells q (i * 128 + 64) (U8 b)).there q (i * 128 + 64) 64 := World.there_setCells (w := w3.drew) t2 _ _ _
    have i0' : (0 : Int) ≤ (i : Int) := by omega
    have i1' : (i : Int) < (n : Int) := by omega
    go_region_held3 (fun w' => w'.cell? ⟨p, 0, none⟩ = some (.slice (some ⟨q, 0, none⟩) n cap) ∧ w'.rangeAt w.heap.size 1 (U8 b) ∧ w'.there q (i * 128 + 64) 64) (first | exact ⟨t0, t1, t2⟩ | exact ⟨k0, k1, k2⟩) (fail)
    clear hu hi69 hl69 hu1 k0 k1 k2
    rw [setCells_drew]
    go_wp2
    go_ret
    rw [hX]
    exact ⟨rfl, HD.out.1.later ⟨rfl, rfl, rfl, Nat.le_refl _, fun _ _ => rfl⟩, HD.out.2.drew⟩
end Go.Proofs.YtdadpepfpiimgaaGreatDoor
namespace Go.Proofs.YtdadpepfpiimgaaGreatDoor
open Go.RowKit
structure Mid (w wr : World) (S : Nat → Prop) (p n : Nat) (ws : List Wr) (q cap : Nat) (v : Value) (D N : Nat → List Int) : Prop where
  str : wr.heap[p]? = some (.cells #[.slice (some ⟨q, 0, none⟩) n cap, .slice none 0 0] 105 (0, 0))
  pl : Pl wr q n cap D N
  wt : wr.ownsRow 0 114 65 v ws.length (WC ws)
  kp : Kept S w wr
theorem Mid.below {w wr w' : World} {S : Nat → Prop} {p n : Nat} {ws : List Wr} {q cap : Nat} {v : Value} {D N : Nat → List Int} (h : Mid w wr S p n ws q cap v D N) (hb : Below wr.heap.size wr w') : Mid w w' S p n ws q cap v D N :=
  have hp : p < wr.heap.size := Blk.lt (t := 105) (sz := 2) ⟨_, h.str, rfl⟩
  ⟨(hb.block p hp).trans h.str, h.pl.same (hb.block q h.pl.blk.lt), own_same h.wt (fun _ hk => hb.block _ ((own_ownBlk h.wt hk).elim fun _ hb => hb.lt)), h.kp.trans (T := fun _ => False) (Kept.of_below hb) (fun _ _ f => f.elim)⟩
theorem Mid.cell0 {w wr : World} {S : Nat → Prop} {p n : Nat} {ws : List Wr} {q cap : Nat} {v : Value} {D N : Nat → List Int} (h : Mid w wr S p n ws q cap v D N) : wr.cell? ⟨p, 0, none⟩ = some (.slice (some ⟨q, 0, none⟩) n cap) := by
  rw [cell_of_row _ _ _ _ 105 (0, 0) h.str]; rfl
theorem Mid.set {w wr : World} {S : Nat → Prop} {p n : Nat} {ws : List Wr} {q cap : Nat} {v : Value} {D N D' N' : Nat → List Int} (h : Mid w wr S p n ws q cap v D N) (hq : S q) (o : Nat) (vs : List Value) (hp : Pl (wr.setCells q o vs) q n cap D' N') : Mid w (wr.setCells q o vs) S p n ws q cap v D' N' := by
  have hb3 : Blk wr p 105 2 := ⟨_, h.str, rfl⟩
  have ho : ∀ k, k ≠ q → (wr.setCells q o vs).heap[k]? = wr.heap[k]? := fun k hk => setCells_other hk _ _ _
  refine ⟨(ho p (hb3.ne h.pl.blk (by decide))).trans h.str, hp, own_same h.wt (fun k hk => ?_), Kept.setCells (fun _ => hq) _ _ _ h.kp⟩
  obtain ⟨sz, hk'⟩ := own_ownBlk h.wt hk
  exact ho k (hk'.ne h.pl.blk (by decide))
theorem Mid.start {w : World} {S : Nat → Prop} {p n : Nat} {d : List Int} {ws : List Wr} {q cap : Nat} {v : Value} (h : PD w S p n d ws q cap v) : Mid w (w.setCell ⟨p, 1, none⟩ (.slice none 0 0)) S p n ws q cap v (sec d) (newest ws d) := by
  refine ⟨setCell_row (cs := [_, _]) h.str 1 _, h.pl.same (heap_setCell_other _ _ _ _ (fun e => h.pq e.symm)), own_same h.wt (fun k hk => heap_setCell_other _ _ _ _ (h.pv k hk).1), (Kept.refl S w).setCell (fun _ => h.sp) _⟩
theorem Mid.done {w wr : World} {S : Nat → Prop} {p n : Nat} {d : List Int} {ws : List Wr} {q cap : Nat} {v : Value} {N : Nat → List Int} {K : Nat → Bool} (h : Mid w wr S p n ws q cap v (sec (settle K ws d)) N) (hp : PD w S p n d ws q cap v) (hn : ∀ i, i < n → N i = sec (settle K ws d) i) : Dsk wr S p n (settle K ws d) [] :=
  ⟨q, cap, .slice none 0 0, h.str, h.pl.congr (fun _ _ => rfl) (fun i hi => hn i hi), World.ownsRow_nil _ _ _ _, hp.sp, hp.sq, fun k hk => (by simp [Value.ownBlock] at hk), hp.n1, hp.n2, setl_length hp.dl hp.fit _, setl_bytes hp.db hp.fit _, Fit.nil _⟩
theorem wt_range {w : World} {v : Value} {ws : List Wr} {n k : Nat} (h : w.ownsRow 0 114 65 v ws.length (WC ws)) (hf : Fit n ws) (hk : k < ws.length) : ∃ g c, v = .slice (some ⟨g, 0, none⟩) ws.length c ∧ w.rangeAt g (k * 65) (wcell ws[k]) := by
  obtain ⟨pv, c, rfl, h0, h1⟩ := own_slice h
  cases pv with
  | none => have := (h0 rfl).1; omega
  | some a =>
    obtain ⟨g, rfl⟩ := h1 a rfl
    refine ⟨g, c, rfl, own_range_part h (fun j u hu => ?_)⟩
    have hj : j < 65 := by
      have := (List.getElem?_eq_some_iff.1 hu).1
      simpa [wcell, (hf.at k hk).2.1] using this
    have e := flat_at (ws.map wcell) (wcell_length hf) k (by simpa using hk) j hj
    rw [Nat.mul_comm] at e
    unfold WC
    rw [e]
    simpa using hu
set_option maxHeartbeats 400000 in
set_option maxRecDepth 100000 in
theorem flush1_any (i : Int) (w : World) : Calls Tryz.prog 104 #[.int .i64 i] w fun e w' => e = .returned (.bool true) ∧ w = w' := by
  go_enter Tryz.func104, Tryz.ntmps104
  go_wp2
  go_ret
  exact ⟨rfl, rfl⟩
structure Keeps (w : World) (c g m : Nat) (K : Nat → Bool) : Prop where
  box : w.heap[c]? = some (.cells #[.slice (some ⟨g, 0, none⟩) m m] 133 (0, 0))
  row : w.heap[g]? = some (.cells ((List.range m).map fun i => Value.bool (K i)).toArray 4 (0, 0))
theorem Keeps.kept {w w' : World} {S : Nat → Prop} {c g m : Nat} {K : Nat → Bool} (h : Keeps w c g m K) (hk : Kept S w w') (h1 : ¬ S c) (h2 : ¬ S g) : Keeps w' c g m K :=
  ⟨(hk.block c (Array.getElem?_eq_some_iff.1 h.box).1 h1).trans h.box, (hk.block g (Array.getElem?_eq_some_iff.1 h.row).1 h2).trans h.row⟩
set_option maxHeartbeats 400000 in
set_option maxRecDepth 100000 in
theorem crash1_any (i m c g : Nat) (K : Nat → Bool) (w : World) (h : Keeps w c g m K) (hi : i < m) : Calls Tryz.prog 51 #[.int .i64 i, .pointer (some ⟨c, 0, none⟩)] w fun e w' => e = .returned (.bool (K i)) ∧ w = w' := by
  have c0 : w.cell? ⟨c, 0, none⟩ = some (.slice (some ⟨g, 0, none⟩) m m) := by rw [cell_of_row _ _ _ _ _ _ h.box]; rfl
  have c1 : w.cell? ⟨g, i, none⟩ = some (.bool (K i)) := by rw [cell_of_row _ _ _ _ _ _ h.row]; simp [hi]
  clear h
  generalize K i = kk at *
  go_enter Tryz.func51, Tryz.ntmps51
  go_wp2
  go_ret
  exact ⟨rfl, rfl⟩
set_option maxHeartbeats 4000000 in
set_option maxRecDepth 100000 in
theorem settle_flush {w : World} {S : Nat → Prop} {p n : Nat} {d : List Int} {ws : List Wr} (h : Dsk w S p n d ws) (hk : ws.length ≤ 100000) (K : Nat → Bool) (hKt : ∀ k, K k = true) :
    Calls Tryz.prog 50 #[.pointer (some ⟨p, 0, none⟩), .func (.func 104) #[] #[]] w fun e w' => e = .returned (.int .i64 ws.length) ∧ Dsk w' S p n (settle K ws d) [] ∧ Kept S w w' := by
  obtain ⟨q, cap, v, h⟩ := h
  have h1 := h.cell1
  have hf := h.free 1
  have HH : Hid (PD w S p n d ws q cap v) := h
  have HM : Hid (Mid w (w.setCell ⟨p, 1, none⟩ (.slice none 0 0)) S p n ws q cap v (sec d) (newest ws d)) := Mid.start h
  obtain ⟨pv, cv, rfl, _⟩ := own_slice h.wt
  clear h
  have HK : Hid (∀ k, K k = true) := hKt
  clear hKt
  go_enter Tryz.func50, Tryz.ntmps50
  go_wp2
  clear h1 hf
  go_loopw [20] (fun i wr => ∃ k : Nat, k ≤ ws.length ∧ i = .int .i64 k ∧ Hid (Mid w wr S p n ws q cap (.slice pv ws.length cv) (sec (setl K ws d k)) (newest ws d))) (fun i _ => ws.length - (intOf i).toNat)
  case atStart => exact ⟨0, by omega, rfl, HM.out⟩
  case round =>
    obtain ⟨k, hkl, rfl, HR⟩ := hrel
    by_cases hlt : k < ws.length
    · obtain ⟨g, c', e, hr⟩ := wt_range HR.out.wt HH.out.fit hlt
      simp only [Value.slice.injEq, true_and] at e
      obtain ⟨rfl, rfl⟩ := e
      have HX := HH.out.fit.at k hlt
      have HS : Hid (setl K ws d (k + 1) = if K k then put (setl K ws d k) ws[k].s ws[k].b else setl K ws d k) := setl_step K ws d k hlt
      generalize ws[k] = X at *
      go_wp2_with (first | (refine wpList_load_mid (by rfl) 114 (.tmp 23) (by rfl) g (k * 65) (by rfl) (wcell X) _ hr Tryz.underlying114 rfl (by rw [size80]; simp [wcell, HX.2.1]) ?_) | (refine wpList_alloc80 (by rfl) (by rfl) ?_) | (refine wpList_store80 (by rfl) (.tmp 7) (.tmp 24) (by rfl) X (by rfl) (by rfl) HX.2.1 ?_) | fail)
      have hM := HR.out.below (below_alloc wr (.cells (wcell X).toArray 114))
      have hkk := HK.out k
      refine (flush1_any k _).mono ?_
      rw [← hkk]
      rintro e w1 ⟨rfl, rfl⟩
      cases hKk : K k with
      | false =>
        have HM2 : Hid (Mid w (wr.alloc (.cells (wcell X).toArray 114)) S p n ws q cap (.slice (some ⟨g, 0, none⟩) ws.length cv) (sec (setl K ws d (k + 1))) (newest ws d)) := by
          show Mid _ _ _ _ _ _ _ _ _ _ _
          rw [HS.out, hKk]
          exact hM
        clear hM hr HR HS hKk
        go_wp2
        go_roundw
        case rel => exact ⟨k + 1, by omega, by go_num, HM2.out⟩
        case measure => simp [intOf]; omega
      | true =>
        have t0 := hM.cell0
        have t1 : (wr.alloc (.cells (wcell X).toArray 114)).cell? ⟨wr.heap.size, 0, none⟩ = some (.int .i64 (X.s : Int)) := by
          rw [cell_of_row _ _ _ _ 114 (0, 0) (heap_alloc_new wr _)]; rfl
        have t2 : (wr.alloc (.cells (wcell X).toArray 114)).rangeAt wr.heap.size 1 (U8 X.b) := new_range_at wr _ _ 1 114 (wcell_data X)
        have t3 : (wr.alloc (.cells (wcell X).toArray 114)).there q (X.s * 128) 64 := hM.pl.blk.there _ _ (by have := hM.pl.ncap; omega)
        have HM2 : Hid (Mid w ((wr.alloc (.cells (wcell X).toArray 114)).setCells q (X.s * 128) (U8 X.b)) S p n ws q cap (.slice (some ⟨g, 0, none⟩) ws.length cv) (sec (setl K ws d (k + 1))) (newest ws d)) := by
          show Mid _ _ _ _ _ _ _ _ _ _ _
          rw [HS.out, hKk, if_pos rfl]
          refine hM.set HH.out.sq _ _ ((hM.pl.setD X.b HX.2.1 HX.1).congr (fun i hi => ?_) (fun _ _ => rfl))
          exact (sec_put (setl_length HH.out.dl HH.out.fit k) HX.1 HX.2.1 hi).symm
        have hpq : p ≠ q := HH.out.pq
        have hwq : wr.heap.size ≠ q := by have := HR.out.pl.blk.lt; omega
        have HXl : Hid (X.b.length = 64) := HX.2.1
        have i1 : (X.s : Int) < (n : Int) := by omega
        have i0 : (0 : Int) ≤ (X.s : Int) := by omega
        obtain ⟨W, hW⟩ : ∃ W, wr.alloc (.cells (wcell X).toArray 114) = W := ⟨_, rfl⟩
        rw [hW] at t0 t1 t2 t3 HM2 ⊢
        clear hM hr HR HS hKk HX hW
        go_wp2
        have hu := Tryz.underlying107
        have hl69 : (U8 X.b).length = 64 := by rw [U8_length]; exact HXl.out
        have hi69 : (Tryz.prog.info? 107).map (·.size) = some (U8 X.b).length := by rw [hl69]; exact size69
        have hu1 := ones_u8 X.b
        have k0 : (W.drew.setCells q (X.s * 128) (U8 X.b)).cell? ⟨p, 0, none⟩ = some (.slice (some ⟨q, 0, none⟩) n cap) := by
          rw [World.cell?_setCells_out _ _ _ _ _ (fun e => absurd e hpq)]; exact t0
        have k1 : (W.drew.setCells q (X.s * 128) (U8 X.b)).cell? ⟨wr.heap.size, 0, none⟩ = some (.int .i64 (X.s : Int)) := by
          rw [World.cell?_setCells_out _ _ _ _ _ (fun e => absurd e hwq)]; exact t1
        have k2 : (W.drew.setCells q (X.s * 128) (U8 X.b)).rangeAt wr.heap.size 1 (U8 X.b) := World.rangeAt_setCells_apart (w := W.drew) t2 _ _ _ (Or.inl hwq)
        have k3 : (W.drew.setCells q (X.s * 128) (U8 X.b)).there q (X.s * 128) 64 := World.there_setCells (w := W.drew) t3 _ _ _
        go_region_held3 (fun w' => w'.cell? ⟨p, 0, none⟩ = some (.slice (some ⟨q, 0, none⟩) n cap) ∧ w'.cell? ⟨wr.heap.size, 0, none⟩ = some (.int .i64 (X.s : Int)) ∧ w'.rangeAt wr.heap.size 1 (U8 X.b) ∧ w'.there q (X.s * 128) 64) (first | exact ⟨t0, t1, t2, t3⟩ | exact ⟨k0, k1, k2, k3⟩) (fail)
        clear hu hi69 hl69 hu1 k0 k1 k2 k3 t0 t1 t2 t3
        rw [setCells_drew]
        go_wp2
        go_roundw
        case rel => exact ⟨k + 1, by omega, by go_num, HM2.out.below ⟨rfl, rfl, rfl, Nat.le_refl _, fun _ _ => rfl⟩⟩
        case measure => simp [intOf]; omega
    · obtain rfl : ws.length = k := by omega
      have HR2 : Hid (Mid w wr S p n ws q cap (.slice pv ws.length cv) (sec (settle K ws d)) (fun i => again (settle K ws d) ws d i 0)) := HR.out
      clear HR
      go_wp2
      clear HM
      obtain ⟨w0, hw0⟩ : ∃ w0, w0 = wr := ⟨_, rfl⟩
      subst hw0
      go_loopw [41] (fun i wr => ∃ k : Nat, k ≤ ws.length ∧ i = .int .i64 k ∧ Hid (Mid w wr S p n ws q cap (.slice pv ws.length cv) (sec (settle K ws d)) (fun i => again (settle K ws d) ws d i k))) (fun i _ => ws.length - (intOf i).toNat)
      case atStart => exact ⟨0, by omega, rfl, HR2.out⟩
      case round =>
        obtain ⟨k, hkl2, rfl, HR⟩ := hrel
        by_cases hlt2 : k < ws.length
        · obtain ⟨g, c', e, hr⟩ := wt_range HR.out.wt HH.out.fit hlt2
          simp only [Value.slice.injEq, true_and] at e
          obtain ⟨rfl, rfl⟩ := e
          have HX := HH.out.fit.at k hlt2
          have HS : Hid (∀ i, again (settle K ws d) ws d i (k + 1) = if ws[k].s = i then sec (settle K ws d) i else again (settle K ws d) ws d i k) := fun i => again_step _ ws d i k hlt2
          generalize ws[k] = X at *
          have hM := HR.out.below (below_alloc wr (.cells (wcell X).toArray 114))
          have t0 := hM.cell0
          have t1 : (wr.alloc (.cells (wcell X).toArray 114)).cell? ⟨wr.heap.size, 0, none⟩ = some (.int .i64 (X.s : Int)) := by
            rw [cell_of_row _ _ _ _ 114 (0, 0) (heap_alloc_new wr _)]; rfl
          have HL : Hid ((sec (settle K ws d) X.s).length = 64) := hM.pl.dl X.s HX.1
          have HT : Hid ((wr.alloc (.cells (wcell X).toArray 114)).drew.rangeAt q (X.s * 128) (U8 (sec (settle K ws d) X.s)) ∧ (wr.alloc (.cells (wcell X).toArray 114)).drew.there q (X.s * 128 + 64) 64) := ⟨hM.pl.dur X.s HX.1, hM.pl.blk.there _ _ (by have := hM.pl.ncap; omega)⟩
          have HM2 : Hid (Mid w ((wr.alloc (.cells (wcell X).toArray 114)).setCells q (X.s * 128 + 64) (U8 (sec (settle K ws d) X.s))) S p n ws q cap (.slice (some ⟨g, 0, none⟩) ws.length cv) (sec (settle K ws d)) (fun i => again (settle K ws d) ws d i (k + 1))) := by
            refine hM.set HH.out.sq _ _ ((hM.pl.setN _ HL.out HX.1).congr (fun _ _ => rfl) (fun i hi => ?_))
            show (if i = X.s then _ else _) = again (settle K ws d) ws d i (k + 1)
            rw [HS.out i]
            by_cases c : i = X.s
            · rw [if_pos c, if_pos c.symm, c]
            · rw [if_neg c, if_neg (fun e => c e.symm)]
          have i1 : (X.s : Int) < (n : Int) := by omega
          have i0 : (0 : Int) ≤ (X.s : Int) := by omega
          clear hM HR HS
          generalize sec (settle K ws d) X.s = B at *
          go_wp2_with (first | (refine wpList_load_mid (by rfl) 114 (.tmp 43) (by rfl) g (k * 65) (by rfl) (wcell X) _ hr Tryz.underlying114 rfl (by rw [size80]; simp [wcell, HX.2.1]) ?_) | (refine wpList_alloc80 (by rfl) (by rfl) ?_) | (refine wpList_store80 (by rfl) (.tmp 9) (.tmp 44) (by rfl) X (by rfl) (by rfl) HX.2.1 ?_) | fail)
          simp only [Act.put, List.setIfInBounds_toArray, List.set_cons_zero, List.set_cons_succ]
          obtain ⟨W, hW⟩ : ∃ W, wr.alloc (.cells (wcell X).toArray 114) = W := ⟨_, rfl⟩
          rw [hW] at t0 t1 HT HM2 ⊢
          clear hW hr
          go_region_held3 (fun w' => w'.cell? ⟨p, 0, none⟩ = some (.slice (some ⟨q, 0, none⟩) n cap) ∧ w'.cell? ⟨wr.heap.size, 0, none⟩ = some (.int .i64 (X.s : Int))) (exact ⟨t0, t1⟩) (fail)
          clear t0 t1
          go_wp2_with (first | (refine wpList_load_mid (by rfl) 107 (.tmp 55) (by rfl) q (X.s * 128) (by rfl) (U8 B) _ HT.out.1 Tryz.underlying107 rfl (by rw [size69, U8_length, HL.out]) ?_) | (refine wpList_store_mid (by rfl) 107 (.tmp 58) (.tmp 56) (by rfl) q (X.s * 128 + 64) (U8 B).toArray (by rfl) (by rfl) (by rw [List.size_toArray, U8_length, HL.out]; exact HT.out.2) (by rw [size69, List.size_toArray, U8_length, HL.out]) (u8_ones B) ?_) | fail)
          rw [setCells_drew]
          go_roundw
          case rel => exact ⟨k + 1, by omega, by go_num, HM2.out.below ⟨rfl, rfl, rfl, Nat.le_refl _, fun _ _ => rfl⟩⟩
          case measure => simp [intOf]; omega
        · obtain rfl : ws.length = k := by omega
          have HD : Hid (Dsk wr S p n (settle K ws d) [] ∧ Kept S w wr) := ⟨HR.out.done HH.out (fun i hi => again_all HH.out.dl HH.out.fit hi), HR.out.kp⟩
          clear HR HR2
          go_wp2
          go_ret
          exact ⟨rfl, HD.out.1, HD.out.2⟩
set_option maxHeartbeats 4000000 in
set_option maxRecDepth 100000 in
theorem settle_crash {w : World} {S : Nat → Prop} {p n : Nat} {d : List Int} {ws : List Wr} (h : Dsk w S p n d ws) (hk : ws.length ≤ 100000) (K : Nat → Bool) (c0 g0 m0 : Nat) (hks : Keeps w c0 g0 m0 K) (hS1 : ¬ S c0) (hS2 : ¬ S g0) (hm0 : ws.length ≤ m0) :
    Calls Tryz.prog 50 #[.pointer (some ⟨p, 0, none⟩), .func (.func 51) #[] #[.pointer (some ⟨c0, 0, none⟩)]] w fun e w' => e = .returned (.int .i64 ws.length) ∧ Dsk w' S p n (settle K ws d) [] ∧ Kept S w w' := by
  obtain ⟨q, cap, v, h⟩ := h
  have h1 := h.cell1
  have hf := h.free 1
  have HH : Hid (PD w S p n d ws q cap v) := h
  have HM : Hid (Mid w (w.setCell ⟨p, 1, none⟩ (.slice none 0 0)) S p n ws q cap v (sec d) (newest ws d)) := Mid.start h
  obtain ⟨pv, cv, rfl, _⟩ := own_slice h.wt
  clear h
  have HK : Hid (Keeps w c0 g0 m0 K ∧ ¬ S c0 ∧ ¬ S g0) := ⟨hks, hS1, hS2⟩
  clear hks hS1 hS2
  go_enter Tryz.func50, Tryz.ntmps50
  go_wp2
  clear h1 hf
  go_loopw [20] (fun i wr => ∃ k : Nat, k ≤ ws.length ∧ i = .int .i64 k ∧ Hid (Mid w wr S p n ws q cap (.slice pv ws.length cv) (sec (setl K ws d k)) (newest ws d))) (fun i _ => ws.length - (intOf i).toNat)
  case atStart => exact ⟨0, by omega, rfl, HM.out⟩
  case round =>
    obtain ⟨k, hkl, rfl, HR⟩ := hrel
    by_cases hlt : k < ws.length
    · obtain ⟨g, c', e, hr⟩ := wt_range HR.out.wt HH.out.fit hlt
      simp only [Value.slice.injEq, true_and] at e
      obtain ⟨rfl, rfl⟩ := e
      have HX := HH.out.fit.at k hlt
      have HS : Hid (setl K ws d (k + 1) = if K k then put (setl K ws d k) ws[k].s ws[k].b else setl K ws d k) := setl_step K ws d k hlt
      generalize ws[k] = X at *
      go_wp2_with (first | (refine wpList_load_mid (by rfl) 114 (.tmp 23) (by rfl) g (k * 65) (by rfl) (wcell X) _ hr Tryz.underlying114 rfl (by rw [size80]; simp [wcell, HX.2.1]) ?_) | (refine wpList_alloc80 (by rfl) (by rfl) ?_) | (refine wpList_store80 (by rfl) (.tmp 7) (.tmp 24) (by rfl) X (by rfl) (by rfl) HX.2.1 ?_) | fail)
      have hM := HR.out.below (below_alloc wr (.cells (wcell X).toArray 114))
      refine (crash1_any k m0 c0 g0 K _ (HK.out.1.kept hM.kp HK.out.2.1 HK.out.2.2) (by omega)).mono ?_
      rintro e w1 ⟨rfl, rfl⟩
      cases hKk : K k with
      | false =>
        have HM2 : Hid (Mid w (wr.alloc (.cells (wcell X).toArray 114)) S p n ws q cap (.slice (some ⟨g, 0, none⟩) ws.length cv) (sec (setl K ws d (k + 1))) (newest ws d)) := by
          show Mid _ _ _ _ _ _ _ _ _ _ _
          rw [HS.out, hKk]
          exact hM
        clear hM hr HR HS hKk
        go_wp2
        go_roundw
        case rel => exact ⟨k + 1, by omega, by go_num, HM2.out⟩
        case measure => simp [intOf]; omega
      | true =>
        have t0 := hM.cell0
        have t1 : (wr.alloc (.cells (wcell X).toArray 114)).cell? ⟨wr.heap.size, 0, none⟩ = some (.int .i64 (X.s : Int)) := by
          rw [cell_of_row _ _ _ _ 114 (0, 0) (heap_alloc_new wr _)]; rfl
        have t2 : (wr.alloc (.cells (wcell X).toArray 114)).rangeAt wr.heap.size 1 (U8 X.b) := new_range_at wr _ _ 1 114 (wcell_data X)
        have t3 : (wr.alloc (.cells (wcell X).toArray 114)).there q (X.s * 128) 64 := hM.pl.blk.there _ _ (by have := hM.pl.ncap; omega)
        have HM2 : Hid (Mid w ((wr.alloc (.cells (wcell X).toArray 114)).setCells q (X.s * 128) (U8 X.b)) S p n ws q cap (.slice (some ⟨g, 0, none⟩) ws.length cv) (sec (setl K ws d (k + 1))) (newest ws d)) := by
          show Mid _ _ _ _ _ _ _ _ _ _ _
          rw [HS.out, hKk, if_pos rfl]
          refine hM.set HH.out.sq _ _ ((hM.pl.setD X.b HX.2.1 HX.1).congr (fun i hi => ?_) (fun _ _ => rfl))
          exact (sec_put (setl_length HH.out.dl HH.out.fit k) HX.1 HX.2.1 hi).symm
        have hpq : p ≠ q := HH.out.pq
        have hwq : wr.heap.size ≠ q := by have := HR.out.pl.blk.lt; omega
        have HXl : Hid (X.b.length = 64) := HX.2.1
        have i1 : (X.s : Int) < (n : Int) := by omega
        have i0 : (0 : Int) ≤ (X.s : Int) := by omega
        obtain ⟨W, hW⟩ : ∃ W, wr.alloc (.cells (wcell X).toArray 114) = W := ⟨_, rfl⟩
        rw [hW] at t0 t1 t2 t3 HM2 ⊢
        clear hM hr HR HS hKk HX hW
        go_wp2
        have hu := Tryz.underlying107
        have hl69 : (U8 X.b).length = 64 := by rw [U8_length]; exact HXl.out
        have hi69 : (Tryz.prog.info? 107).map (·.size) = some (U8 X.b).length := by rw [hl69]; exact size69
        have hu1 := ones_u8 X.b
        have k0 : (W.drew.setCells q (X.s * 128) (U8 X.b)).cell? ⟨p, 0, none⟩ = some (.slice (some ⟨q, 0, none⟩) n cap) := by
          rw [World.cell?_setCells_out _ _ _ _ _ (fun e => absurd e hpq)]; exact t0
        have k1 : (W.drew.setCells q (X.s * 128) (U8 X.b)).cell? ⟨wr.heap.size, 0, none⟩ = some (.int .i64 (X.s : Int)) := by
          rw [World.cell?_setCells_out _ _ _ _ _ (fun e => absurd e hwq)]; exact t1
        have k2 : (W.drew.setCells q (X.s * 128) (U8 X.b)).rangeAt wr.heap.size 1 (U8 X.b) := World.rangeAt_setCells_apart (w := W.drew) t2 _ _ _ (Or.inl hwq)
        have k3 : (W.drew.setCells q (X.s * 128) (U8 X.b)).there q (X.s * 128) 64 := World.there_setCells (w := W.drew) t3 _ _ _
        go_region_held3 (fun w' => w'.cell? ⟨p, 0, none⟩ = some (.slice (some ⟨q, 0, none⟩) n cap) ∧ w'.cell? ⟨wr.heap.size, 0, none⟩ = some (.int .i64 (X.s : Int)) ∧ w'.rangeAt wr.heap.size 1 (U8 X.b) ∧ w'.there q (X.s * 128) 64) (first | exact ⟨t0, t1, t2, t3⟩ | exact ⟨k0, k1, k2, k3⟩) (fail)
        clear hu hi69 hl69 hu1 k0 k1 k2 k3 t0 t1 t2 t3
        rw [setCells_drew]
        go_wp2
        go_roundw
        case rel => exact ⟨k + 1, by omega, by go_num, HM2.out.below ⟨rfl, rfl, rfl, Nat.le_refl _, fun _ _ => rfl⟩⟩
        case measure => simp [intOf]; omega
    · obtain rfl : ws.length = k := by omega
      have HR2 : Hid (Mid w wr S p n ws q cap (.slice pv ws.length cv) (sec (settle K ws d)) (fun i => again (settle K ws d) ws d i 0)) := HR.out
      clear HR
      go_wp2
      clear HM
      obtain ⟨w0, hw0⟩ : ∃ w0, w0 = wr := ⟨_, rfl⟩
      subst hw0
      go_loopw [41] (fun i wr => ∃ k : Nat, k ≤ ws.length ∧ i = .int .i64 k ∧ Hid (Mid w wr S p n ws q cap (.slice pv ws.length cv) (sec (settle K ws d)) (fun i => again (settle K ws d) ws d i k))) (fun i _ => ws.length - (intOf i).toNat)
      case atStart => exact ⟨0, by omega, rfl, HR2.out⟩
      case round =>
        obtain ⟨k, hkl2, rfl, HR⟩ := hrel
        by_cases hlt2 : k < ws.length
        · obtain ⟨g, c', e, hr⟩ := wt_range HR.out.wt HH.out.fit hlt2
          simp only [Value.slice.injEq, true_and] at e
          obtain ⟨rfl, rfl⟩ := e
          have HX := HH.out.fit.at k hlt2
          have HS : Hid (∀ i, again (settle K ws d) ws d i (k + 1) = if ws[k].s = i then sec (settle K ws d) i else again (settle K ws d) ws d i k) := fun i => again_step _ ws d i k hlt2
          generalize ws[k] = X at *
          have hM := HR.out.below (below_alloc wr (.cells (wcell X).toArray 114))
          have t0 := hM.cell0
          have t1 : (wr.alloc (.cells (wcell X).toArray 114)).cell? ⟨wr.heap.size, 0, none⟩ = some (.int .i64 (X.s : Int)) := by
            rw [cell_of_row _ _ _ _ 114 (0, 0) (heap_alloc_new wr _)]; rfl
          have HL : Hid ((sec (settle K ws d) X.s).length = 64) := hM.pl.dl X.s HX.1
          have HT : Hid ((wr.alloc (.cells (wcell X).toArray 114)).drew.rangeAt q (X.s * 128) (U8 (sec (settle K ws d) X.s)) ∧ (wr.alloc (.cells (wcell X).toArray 114)).drew.there q (X.s * 128 + 64) 64) := ⟨hM.pl.dur X.s HX.1, hM.pl.blk.there _ _ (by have := hM.pl.ncap; omega)⟩
          have HM2 : Hid (Mid w ((wr.alloc (.cells (wcell X).toArray 114)).setCells q (X.s * 128 + 64) (U8 (sec (settle K ws d) X.s))) S p n ws q cap (.slice (some ⟨g, 0, none⟩) ws.length cv) (sec (settle K ws d)) (fun i => again (settle K ws d) ws d i (k + 1))) := by
            refine hM.set HH.out.sq _ _ ((hM.pl.setN _ HL.out HX.1).congr (fun _ _ => rfl) (fun i hi => ?_))
            show (if i = X.s then _ else _) = again (settle K ws d) ws d i (k + 1)
            rw [HS.out i]
            by_cases c : i = X.s
            · rw [if_pos c, if_pos c.symm, c]
            · rw [if_neg c, if_neg (fun e => c e.symm)]
          have i1 : (X.s : Int) < (n : Int) := by omega
          have i0 : (0 : Int) ≤ (X.s : Int) := by omega
          clear hM HR HS
          generalize sec (settle K ws d) X.s = B at *
          go_wp2_with (first | (refine wpList_load_mid (by rfl) 114 (.tmp 43) (by rfl) g (k * 65) (by rfl) (wcell X) _ hr Tryz.underlying114 rfl (by rw [size80]; simp [wcell, HX.2.1]) ?_) | (refine wpList_alloc80 (by rfl) (by rfl) ?_) | (refine wpList_store80 (by rfl) (.tmp 9) (.tmp 44) (by rfl) X (by rfl) (by rfl) HX.2.1 ?_) | fail)
          simp only [Act.put, List.setIfInBounds_toArray, List.set_cons_zero, List.set_cons_succ]
          obtain ⟨W, hW⟩ : ∃ W, wr.alloc (.cells (wcell X).toArray 114) = W := ⟨_, rfl⟩
          rw [hW] at t0 t1 HT HM2 ⊢
          clear hW hr
          go_region_held3 (fun w' => w'.cell? ⟨p, 0, none⟩ = some (.slice (some ⟨q, 0, none⟩) n cap) ∧ w'.cell? ⟨wr.heap.size, 0, none⟩ = some (.int .i64 (X.s : Int))) (exact ⟨t0, t1⟩) (fail)
          clear t0 t1
          go_wp2_with (first | (refine wpList_load_mid (by rfl) 107 (.tmp 55) (by rfl) q (X.s * 128) (by rfl) (U8 B) _ HT.out.1 Tryz.underlying107 rfl (by rw [size69, U8_length, HL.out]) ?_) | (refine wpList_store_mid (by rfl) 107 (.tmp 58) (.tmp 56) (by rfl) q (X.s * 128 + 64) (U8 B).toArray (by rfl) (by rfl) (by rw [List.size_toArray, U8_length, HL.out]; exact HT.out.2) (by rw [size69, List.size_toArray, U8_length, HL.out]) (u8_ones B) ?_) | fail)
          rw [setCells_drew]
          go_roundw
          case rel => exact ⟨k + 1, by omega, by go_num, HM2.out.below ⟨rfl, rfl, rfl, Nat.le_refl _, fun _ _ => rfl⟩⟩
          case measure => simp [intOf]; omega
        · obtain rfl : ws.length = k := by omega
          have HD : Hid (Dsk wr S p n (settle K ws d) [] ∧ Kept S w wr) := ⟨HR.out.done HH.out (fun i hi => again_all HH.out.dl HH.out.fit hi), HR.out.kp⟩
          clear HR HR2
          go_wp2
          go_ret
          exact ⟨rfl, HD.out.1, HD.out.2⟩
end Go.Proofs.YtdadpepfpiimgaaGreatDoor
