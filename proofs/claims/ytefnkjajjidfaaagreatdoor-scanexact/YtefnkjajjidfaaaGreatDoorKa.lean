/-
  Layer 7: how a superblock and a configuration lie in memory; what the operations on them do, said once.
-/
import Derived.Test.YtefnkjajjidfaaaGreatDoorSup
import Derived.Test.YtefnkjajjidfaaaGreatDoorSa
import Derived.Laws.StructEq
import Derived.Laws.ResultCell
import Derived.Laws.Rows
import Derived.Laws.Tables
import Derived.Deep.MidRow
import Derived.Laws.Cover3
import Derived.Great.FillDense
import Derived.Great.BuildSlice
namespace Go.Proofs.YtefnkjajjidfaaaGreatDoor
open Go.RowKit
theorem size29 : (Tryz.prog.info? 81).map (·.size) = some 7 := by kernel_rfl
theorem size23 : (Tryz.prog.info? 23).map (·.size) = some 5 := by kernel_rfl
theorem U8_length (xs : List Int) : (U8 xs).length = xs.length := by simp
/-- the cells -/
def ccells (s : Sup) : List Value := [.int .i64 s.bl, .int .i64 s.lc, .int .i64 s.mr, .int .i64 s.hi, .int .i64 s.cl]
def scells (s : Sup) : List Value := [.int .i64 s.bl, .int .i64 s.lc, .int .i64 s.mr, .int .i64 s.hi, .int .i64 s.cl, .int .u64 s.tail, .int .u64 s.life]
theorem scells_len (s : Sup) : (scells s).length = 7 := rfl
theorem ccells_len (s : Sup) : (ccells s).length = 5 := rfl
theorem scells_ones (s : Sup) : ∀ v ∈ scells s, v.oneCell' = true := by
  intro v hv
  simp only [scells, List.mem_cons, List.not_mem_nil, or_false] at hv
  rcases hv with rfl | rfl | rfl | rfl | rfl | rfl | rfl <;> rfl
theorem ccells_ones (s : Sup) : ∀ v ∈ ccells s, v.oneCell' = true := by
  intro v hv
  simp only [ccells, List.mem_cons, List.not_mem_nil, or_false] at hv
  rcases hv with rfl | rfl | rfl | rfl | rfl <;> rfl
theorem scells_all (s : Sup) : (scells s).toArray.all (·.oneCell') = true := all_oneCell_toArray (scells_ones s)
theorem ccells_all (s : Sup) : (ccells s).toArray.all (·.oneCell') = true := all_oneCell_toArray (ccells_ones s)
/-- cells lie at the head of a block -/
def LAt (t : TypeId) (w : World) (g : Nat) (cs : List Value) : Prop := w.heap[g]? = some (.cells cs.toArray t (0, 0))
theorem LAt.lt {t : TypeId} {w : World} {g : Nat} {cs : List Value} (h : LAt t w g cs) : g < w.heap.size := (Array.getElem?_eq_some_iff.1 h).1
theorem LAt.later {t : TypeId} {w w' : World} {g : Nat} {cs : List Value} (h : LAt t w g cs) (hb : Below w.heap.size w w') : LAt t w' g cs := (hb.block g h.lt).trans h
theorem LAt.below {t : TypeId} {B : Nat} {w w' : World} {g : Nat} {cs : List Value} (h : LAt t w g cs) (hb : Below B w w') (hg : g < B) : LAt t w' g cs := (hb.block g hg).trans h
theorem LAt.new (t : TypeId) (w : World) (cs : List Value) : LAt t (w.alloc (.cells cs.toArray t)) w.heap.size cs := heap_alloc_new w _
theorem LAt.drew {t : TypeId} {w : World} {g : Nat} {cs : List Value} (h : LAt t w g cs) : LAt t w.drew g cs := h
theorem LAt.cell {t : TypeId} {w : World} {g : Nat} {cs : List Value} (h : LAt t w g cs) (j : Nat) : w.cell? ⟨g, j, none⟩ = cs[j]? := by
  rw [cell_of_row w g j cs.toArray t (0, 0) h]; simp
theorem LAt.range {t : TypeId} {w : World} {g : Nat} {cs : List Value} (h : LAt t w g cs) : w.rangeAt g 0 cs := fun j v hv => by
  rw [Nat.zero_add, h.cell j]; exact hv
theorem LAt.store {t : TypeId} {w : World} {g : Nat} {cs ds : List Value} (h : LAt t w g cs) (ht : (Tryz.prog.info? t).map (·.size) = some ds.length) (hl : ds.length = cs.length) (hd : ds.toArray.all (·.oneCell') = true) :
    (Instr.storeAt t (.pointer (some ⟨g, 0, none⟩)) (.agg ds.toArray)).run Tryz.prog w = .ok () (w.setRow g ds.toArray) := by
  simp only [Instr.storeAt, Instr.sureAddr, Sem.run_bind, Sem.run_pure, Result.andThen_ok, run_storeVar_row w g t t cs.toArray ds.toArray h (by rw [ht, List.size_toArray]) (by rw [List.size_toArray, List.size_toArray, hl]) hd]
theorem LAt.stored {t : TypeId} {w : World} {g : Nat} {cs : List Value} (h : LAt t w g cs) (ds : List Value) : LAt t (w.setRow g ds.toArray) g ds := setRow_heap w g _ _ t (0, 0) h
theorem LAt.other {t : TypeId} {w : World} {g k : Nat} {cs : List Value} (h : LAt t w g cs) (ds : Array Value) (hk : g ≠ k) : LAt t (w.setRow k ds) g cs := (setRow_other w k g ds hk).trans h
theorem LAt.set {t : TypeId} {w : World} {g : Nat} {cs : List Value} (h : LAt t w g cs) (j : Nat) (v : Value) : LAt t (w.setCell ⟨g, j, none⟩ v) g (cs.set j v) := by
  have := heap_setCell_same w g j _ t v h
  simpa [LAt] using this
theorem LAt.setO {t : TypeId} {w : World} {g k : Nat} {cs : List Value} (h : LAt t w g cs) (j : Nat) (v : Value) (hk : g ≠ k) : LAt t (w.setCell ⟨k, j, none⟩ v) g cs := (heap_setCell_other w ⟨k, j, none⟩ g _ hk).trans h
/-- a superblock lies there; a configuration -/
abbrev SAt (t : TypeId) (w : World) (g : Nat) (s : Sup) : Prop := LAt t w g (scells s)
abbrev CAt (w : World) (g : Nat) (s : Sup) : Prop := LAt 23 w g (ccells s)
theorem SAt.c0 {t : TypeId} {w : World} {g : Nat} {s : Sup} (h : SAt t w g s) : w.cell? ⟨g, 0, none⟩ = some (.int .i64 s.bl) := LAt.cell h 0
theorem SAt.c1 {t : TypeId} {w : World} {g : Nat} {s : Sup} (h : SAt t w g s) : w.cell? ⟨g, 1, none⟩ = some (.int .i64 s.lc) := LAt.cell h 1
theorem SAt.c2 {t : TypeId} {w : World} {g : Nat} {s : Sup} (h : SAt t w g s) : w.cell? ⟨g, 2, none⟩ = some (.int .i64 s.mr) := LAt.cell h 2
theorem SAt.c3 {t : TypeId} {w : World} {g : Nat} {s : Sup} (h : SAt t w g s) : w.cell? ⟨g, 3, none⟩ = some (.int .i64 s.hi) := LAt.cell h 3
theorem SAt.c4 {t : TypeId} {w : World} {g : Nat} {s : Sup} (h : SAt t w g s) : w.cell? ⟨g, 4, none⟩ = some (.int .i64 s.cl) := LAt.cell h 4
theorem SAt.c5 {t : TypeId} {w : World} {g : Nat} {s : Sup} (h : SAt t w g s) : w.cell? ⟨g, 5, none⟩ = some (.int .u64 s.tail) := LAt.cell h 5
theorem SAt.c6 {t : TypeId} {w : World} {g : Nat} {s : Sup} (h : SAt t w g s) : w.cell? ⟨g, 6, none⟩ = some (.int .u64 s.life) := LAt.cell h 6
theorem CAt.c0 {w : World} {g : Nat} {s : Sup} (h : CAt w g s) : w.cell? ⟨g, 0, none⟩ = some (.int .i64 s.bl) := LAt.cell h 0
theorem CAt.c1 {w : World} {g : Nat} {s : Sup} (h : CAt w g s) : w.cell? ⟨g, 1, none⟩ = some (.int .i64 s.lc) := LAt.cell h 1
theorem CAt.c2 {w : World} {g : Nat} {s : Sup} (h : CAt w g s) : w.cell? ⟨g, 2, none⟩ = some (.int .i64 s.mr) := LAt.cell h 2
theorem CAt.c3 {w : World} {g : Nat} {s : Sup} (h : CAt w g s) : w.cell? ⟨g, 3, none⟩ = some (.int .i64 s.hi) := LAt.cell h 3
theorem CAt.c4 {w : World} {g : Nat} {s : Sup} (h : CAt w g s) : w.cell? ⟨g, 4, none⟩ = some (.int .i64 s.cl) := LAt.cell h 4
theorem SAt.load29 {t : TypeId} {w : World} {g : Nat} {s : Sup} (h : SAt t w g s) : (Instr.loadAt 81 (.pointer (some ⟨g, 0, none⟩))).run Tryz.prog w = .ok (.agg (scells s).toArray) w :=
  run_loadAt_mid w g 0 81 (scells s) _ (LAt.range h) Tryz.underlying81 rfl (by rw [size29, scells_len])
theorem SAt.range5 {t : TypeId} {w : World} {g : Nat} {s : Sup} (h : SAt t w g s) : w.rangeAt g 0 (ccells s) := fun j v hv => by
  have hj : j < 5 := (List.getElem?_eq_some_iff.1 hv).1
  rw [Nat.zero_add, LAt.cell h j, ← hv]
  have : j = 0 ∨ j = 1 ∨ j = 2 ∨ j = 3 ∨ j = 4 := by omega
  rcases this with rfl | rfl | rfl | rfl | rfl <;> rfl
theorem SAt.load23 {t : TypeId} {w : World} {g : Nat} {s : Sup} (h : SAt t w g s) : (Instr.loadAt 23 (.pointer (some ⟨g, 0, none⟩))).run Tryz.prog w = .ok (.agg (ccells s).toArray) w :=
  run_loadAt_mid w g 0 23 (ccells s) _ (SAt.range5 h) Tryz.underlying23 rfl (by rw [size23, ccells_len])
theorem CAt.load23 {w : World} {g : Nat} {s : Sup} (h : CAt w g s) : (Instr.loadAt 23 (.pointer (some ⟨g, 0, none⟩))).run Tryz.prog w = .ok (.agg (ccells s).toArray) w :=
  run_loadAt_mid w g 0 23 (ccells s) _ (LAt.range h) Tryz.underlying23 rfl (by rw [size23, ccells_len])
/-- builds -/
theorem part_fill (off : Nat) (vs : List Value) (cs : List Value) (h : off + vs.length ≤ cs.length) :
    vs.toArray.zipIdx.foldl (fun cs (x : Value × Nat) => cs.setIfInBounds (off + x.2) x.1) cs.toArray = (cs.take off ++ vs ++ cs.drop (off + vs.length)).toArray := by
  rw [← Array.foldl_toList, Array.toList_zipIdx]
  obtain ⟨h1, h2⟩ := Great.foldl_set off vs 0 cs.toArray
  apply Array.ext_getElem?
  intro k
  have e := h2 k
  simp only [Nat.add_zero, List.size_toArray] at e
  refine Eq.trans e ?_
  rw [List.getElem?_toArray, List.getElem?_toArray]
  by_cases c1 : k < off
  · rw [if_neg (by omega), List.append_assoc, List.getElem?_append_left (by simp; omega), List.getElem?_take, if_pos c1]
  · by_cases c2 : k < off + vs.length
    · rw [if_pos ⟨by omega, c2, by omega⟩, List.append_assoc, List.getElem?_append_right (by simp; omega), List.getElem?_append_left (by simp; omega)]
      congr 1; simp; omega
    · rw [if_neg (by omega), List.getElem?_append_right (by simp; omega), List.getElem?_drop]
      congr 1; simp; omega
def placesOf (P : Program) (t : TypeId) : Option (List (Nat × Nat)) := (P.underlying t).bind fun d => match d with
  | .struct fs => fs.toList.mapM (fun f => (P.info? f.type).map fun i => (f.offset, i.size))
  | _ => none
def plS : List (Nat × Nat) := [(0, 5), (5, 1), (6, 1)]
def plC : List (Nat × Nat) := [(0, 1), (1, 1), (2, 1), (3, 1), (4, 1)]
theorem places29 : placesOf Tryz.prog 81 = some plS := by kernel_rfl
theorem places23 : placesOf Tryz.prog 23 = some plC := by kernel_rfl
theorem zero29 : (Tryz.prog.info? 81).bind (·.zero) = some (.agg (scells sup0).toArray) := by kernel_rfl
theorem zero23 : (Tryz.prog.info? 23).bind (·.zero) = some (.agg (ccells sup0).toArray) := by kernel_rfl
theorem built_of (t : TypeId) (ps : List (Nat × Nat)) (z : Value) (parts : List (Nat × Value)) (hp : placesOf Tryz.prog t = some ps) (hz : (Tryz.prog.info? t).bind (·.zero) = some z) : Tryz.prog.built t parts = Instr.fill (ps.toArray[·]?) z.cells parts := by
  unfold Program.built
  unfold placesOf at hp
  cases hu : Tryz.prog.underlying t with
  | none => simp [hu] at hp
  | some d =>
    cases hi : Tryz.prog.info? t with
    | none => simp [hi] at hz
    | some it =>
      simp only [hi, Option.bind_some] at hz
      simp only [hu, Option.bind_some] at hp
      cases d <;> first | (cases hp; done) | (simp only [hz, hp])
theorem fill_step {pl : List (Nat × Nat)} (off n : Nat) (i : Nat) (hp : pl.toArray[i]? = some (off, n)) (v : Value) (vs cs : List Value) (hv : v.cells = vs.toArray) (hn : vs.length = n) (hl : off + n ≤ cs.length) (rest : List (Nat × Value)) :
    Instr.fill (pl.toArray[·]?) cs.toArray ((i, v) :: rest) = Instr.fill (pl.toArray[·]?) (cs.take off ++ vs ++ cs.drop (off + vs.length)).toArray rest := by
  have a0 := part_fill off vs cs (by omega)
  have a1 : vs.toArray.zipIdx.foldl (fun cs x => match x with | (c, j) => cs.setIfInBounds (off + j) c) cs.toArray = (cs.take off ++ vs ++ cs.drop (off + vs.length)).toArray := a0
  simp only [Instr.fill]
  rw [hp]
  dsimp only
  rw [hv]
  simp only [List.size_toArray]
  rw [if_neg (by simp [hn]; omega), a1]
theorem fill_cfg (r s : Sup) (rest : List (Nat × Value)) : Instr.fill (plS.toArray[·]?) (scells r).toArray ((0, .agg (ccells s).toArray) :: rest) = Instr.fill (plS.toArray[·]?) (scells ⟨s.bl, s.lc, s.mr, s.hi, s.cl, r.tail, r.life⟩).toArray rest :=
  fill_step 0 5 0 rfl _ (ccells s) _ rfl rfl (by rw [scells_len]; omega) rest
theorem fill_tail (r : Sup) (x : Int) (rest : List (Nat × Value)) : Instr.fill (plS.toArray[·]?) (scells r).toArray ((1, .int .u64 x) :: rest) = Instr.fill (plS.toArray[·]?) (scells ⟨r.bl, r.lc, r.mr, r.hi, r.cl, x, r.life⟩).toArray rest :=
  fill_step 5 1 1 rfl _ [.int .u64 x] _ rfl rfl (by rw [scells_len]; omega) rest
theorem fill_life (r : Sup) (x : Int) (rest : List (Nat × Value)) : Instr.fill (plS.toArray[·]?) (scells r).toArray ((2, .int .u64 x) :: rest) = Instr.fill (plS.toArray[·]?) (scells ⟨r.bl, r.lc, r.mr, r.hi, r.cl, r.tail, x⟩).toArray rest :=
  fill_step 6 1 2 rfl _ [.int .u64 x] _ rfl rfl (by rw [scells_len]; omega) rest
theorem fill_all (s : Sup) : Instr.fill (plS.toArray[·]?) (scells sup0).toArray [(0, .agg (ccells s).toArray), (1, .int .u64 s.tail), (2, .int .u64 s.life)] = some (scells s).toArray := by
  rw [fill_cfg, fill_tail, fill_life]; rfl
theorem fill_two (s : Sup) (h : s.tail = 0) : Instr.fill (plS.toArray[·]?) (scells sup0).toArray [(0, .agg (ccells s).toArray), (2, .int .u64 s.life)] = some (scells s).toArray := by
  rw [fill_cfg, fill_life]
  obtain ⟨a, b, c, d, e, f, g⟩ := s
  simp only at h
  subst h
  rfl
theorem fill_cfgs (s : Sup) : Instr.fill (plC.toArray[·]?) (ccells sup0).toArray [(0, .int .i64 s.bl), (1, .int .i64 s.lc), (2, .int .i64 s.mr), (3, .int .i64 s.hi), (4, .int .i64 s.cl)] = some (ccells s).toArray := by
  rw [fill_step 0 1 0 rfl _ [.int .i64 s.bl] _ rfl rfl (by rw [ccells_len]; omega), fill_step 1 1 1 rfl _ [.int .i64 s.lc] _ rfl rfl (by simp [ccells]), fill_step 2 1 2 rfl _ [.int .i64 s.mr] _ rfl rfl (by simp [ccells]), fill_step 3 1 3 rfl _ [.int .i64 s.hi] _ rfl rfl (by simp [ccells]), fill_step 4 1 4 rfl _ [.int .i64 s.cl] _ rfl rfl (by simp [ccells])]
  rfl
theorem build29 (w : World) (parts : Array (Nat × Value)) (r : Sup) (h : Instr.fill (plS.toArray[·]?) (scells sup0).toArray parts.toList = some (scells r).toArray) : (Instr.build 81 parts).run Tryz.prog w = .ok (.agg (scells r).toArray) w :=
  run_build w 81 _ _ ((built_of 81 _ _ _ places29 zero29).trans h)
theorem build23 (w : World) (parts : Array (Nat × Value)) (r : Sup) (h : Instr.fill (plC.toArray[·]?) (ccells sup0).toArray parts.toList = some (ccells r).toArray) : (Instr.build 23 parts).run Tryz.prog w = .ok (.agg (ccells r).toArray) w :=
  run_build w 23 _ _ ((built_of 23 _ _ _ places23 zero23).trans h)
theorem fill_none : Instr.fill (plS.toArray[·]?) (scells sup0).toArray (#[] : Array (Nat × Value)).toList = some (scells sup0).toArray := rfl
theorem fill_noneC : Instr.fill (plC.toArray[·]?) (ccells sup0).toArray (#[] : Array (Nat × Value)).toList = some (ccells sup0).toArray := rfl
section
variable {P : Program} {ops : Array Oper} {rest : List Oper} {o : Oper} {a : Act} {w w' : World} {Q : Exit → Act → World → Prop}
/-- an operation by what it runs to, guarded or not -/
theorem wpList_val (hgd : Region.wanted o (yielded ops a.tmps) = true) {v : Value} (hrun : (execOp a.eval o).run P w = .ok (.value v) w') (h : wpList P ops Q rest (a.put o.dst v) w') : wpList P ops Q (o :: rest) a w :=
  wpList_step fun K hK => by
    rw [if_pos hgd]
    unfold Oper.wp
    rw [hrun]
    exact hK _ _ h
theorem wpList_skp (hgd : Region.wanted o (yielded ops a.tmps) = true) (hrun : (execOp a.eval o).run P w = .ok .skip w') (h : wpList P ops Q rest (a.put o.dst undef) w') : wpList P ops Q (o :: rest) a w :=
  wpList_step fun K hK => by
    rw [if_pos hgd]
    unfold Oper.wp
    rw [hrun]
    exact hK _ _ h
theorem wpList_load_is (hgd : Region.wanted o (yielded ops a.tmps) = true) (ty : TypeId) {x : Operand} (ho : o.op = .load ty x) {p v : Value} (hx : a.eval x = p) (hrun : (Instr.loadAt ty p).run P w = .ok v w)
    (h : wpList P ops Q rest (a.put o.dst v) w) : wpList P ops Q (o :: rest) a w :=
  wpList_val hgd (by unfold execOp; simp only [ho, hx, Sem.run_bind, hrun, Result.andThen_ok, Sem.run_pure]) h
theorem wpList_build_is (hgd : Region.wanted o (yielded ops a.tmps) = true) (ty : TypeId) {ps : Array (Nat × Operand)} (ho : o.op = .build ty ps) {vs : List (Nat × Value)} {v : Value} (hx : ps.toList.map (fun (i, x) => (i, a.eval x)) = vs) (hrun : (Instr.build ty vs.toArray).run P w = .ok v w)
    (h : wpList P ops Q rest (a.put o.dst v) w) : wpList P ops Q (o :: rest) a w :=
  wpList_val hgd (by unfold execOp; simp only [ho]; rw [show ps.map (fun (i, x) => (i, a.eval x)) = vs.toArray by rw [← hx, ← Array.toList_map]]; simp only [Sem.run_bind, hrun, Result.andThen_ok, Sem.run_pure]) h
theorem wpList_eql_is (hgd : Region.wanted o (yielded ops a.tmps) = true) (ty : TypeId) {x y : Operand} {t2 : TypeId} (ho : o.op = .binOp .eql ty x y t2) {xs ys : Array Value} {v : Value} (hx : a.eval x = .agg xs) (hy : a.eval y = .agg ys) (hg : P.eqGuardType P.depth ty = false) (hrun : (binOp .eql ty (.agg xs) (.agg ys)).run P w = .ok v w)
    (h : wpList P ops Q rest (a.put o.dst v) w) : wpList P ops Q (o :: rest) a w :=
  wpList_val hgd (by unfold execOp; simp only [ho, hx, hy, Sem.run_bind, run_eqGuard_agg w .eql ty x y xs ys hg, hrun, Result.andThen_ok, Sem.run_pure]) h
theorem wpList_neq_is (hgd : Region.wanted o (yielded ops a.tmps) = true) (ty : TypeId) {x y : Operand} {t2 : TypeId} (ho : o.op = .binOp .neq ty x y t2) {xs ys : Array Value} {v : Value} (hx : a.eval x = .agg xs) (hy : a.eval y = .agg ys) (hg : P.eqGuardType P.depth ty = false) (hrun : (binOp .neq ty (.agg xs) (.agg ys)).run P w = .ok v w)
    (h : wpList P ops Q rest (a.put o.dst v) w) : wpList P ops Q (o :: rest) a w :=
  wpList_val hgd (by unfold execOp; simp only [ho, hx, hy, Sem.run_bind, run_eqGuard_agg w .neq ty x y xs ys hg, hrun, Result.andThen_ok, Sem.run_pure]) h
theorem wpList_alloc_is (hgd : Region.wanted o (yielded ops a.tmps) = true) (ty : TypeId) (ho : o.op = .alloc ty) {v : Value} (hrun : (Instr.alloc ty true (.tuple #[])).run P w = .ok v w')
    (h : wpList P ops Q rest (a.put o.dst v) w') : wpList P ops Q (o :: rest) a w :=
  wpList_val hgd (by unfold execOp; simp only [ho, Sem.run_bind, hrun, Result.andThen_ok, Sem.run_pure]) h
theorem wpList_store_is (hgd : Region.wanted o (yielded ops a.tmps) = true) (ty : TypeId) {x y : Operand} (ho : o.op = .store ty x y) {p v : Value} (hx : a.eval x = p) (hy : a.eval y = v) (hrun : (Instr.storeAt ty p v).run P w = .ok () w')
    (h : wpList P ops Q rest (a.put o.dst undef) w') : wpList P ops Q (o :: rest) a w :=
  wpList_skp hgd (by unfold execOp; simp only [ho, hx, hy, Sem.run_bind, hrun, Result.andThen_ok, Sem.run_pure]) h
end
/-- new variables, and stores of whole records -/
theorem zv (t : TypeId) (z : Value) (hz : (Tryz.prog.info? t).bind (·.zero) = some z) (w : World) : (zeroValue t).run Tryz.prog w = .ok z w := by
  cases hi : Tryz.prog.info? t with
  | none => simp [hi] at hz
  | some it =>
    simp only [hi, Option.bind_some] at hz
    simp [zeroValue, typeInfo, hi, hz]
theorem alloc29 (w : World) : (Instr.alloc 81 true (.tuple #[])).run Tryz.prog w = .ok (.pointer (some ⟨w.heap.size, 0, none⟩)) (w.alloc (.cells (scells sup0).toArray 81)) := by
  simp only [Instr.alloc, Sem.run_bind, zv 81 _ zero29, Result.andThen_ok]
  simp [newVar, newRow, Value.cells]
theorem alloc23 (w : World) : (Instr.alloc 23 true (.tuple #[])).run Tryz.prog w = .ok (.pointer (some ⟨w.heap.size, 0, none⟩)) (w.alloc (.cells (ccells sup0).toArray 23)) := by
  simp only [Instr.alloc, Sem.run_bind, zv 23 _ zero23, Result.andThen_ok]
  simp [newVar, newRow, Value.cells]
theorem below_setRow {B g : Nat} {w w' : World} (h : Below B w w') (hg : B ≤ g) (cs : Array Value) : Below B w (w'.setRow g cs) :=
  ⟨h.os, h.tape, h.output, by rw [size_setRow]; exact h.size, fun k hk => (setRow_other w' g k cs (by omega)).trans (h.block k hk)⟩
/-- a new variable stored whole -/
theorem world_ext : ∀ (u v : World), u.heap = v.heap → u.tape = v.tape → u.drawn = v.drawn → u.os = v.os → u.output = v.output → u = v
  | ⟨_, _, _, _, _⟩, ⟨_, _, _, _, _⟩, h1, h2, h3, h4, h5 => by
    simp only at h1 h2 h3 h4 h5
    subst h1 h2 h3 h4 h5
    rfl
theorem setRow_alloc (w : World) (a b : Array Value) (t : TypeId) : (w.alloc (.cells a t)).setRow w.heap.size b = w.alloc (.cells b t) := by
  refine world_ext _ _ ?_ rfl rfl rfl rfl
  apply Array.ext_getElem?
  intro k
  by_cases c : k = w.heap.size
  · subst c
    rw [setRow_heap _ _ a b t (0, 0) (heap_alloc_new w _), heap_alloc_new]
  · rw [setRow_other _ _ _ _ c]
    show (w.heap.push _)[k]? = (w.heap.push _)[k]?
    rw [Array.getElem?_push, Array.getElem?_push, if_neg c, if_neg c]
theorem store_new29 (w : World) (s : Sup) : (Instr.storeAt 81 (.pointer (some ⟨w.heap.size, 0, none⟩)) (.agg (scells s).toArray)).run Tryz.prog (w.alloc (.cells (scells sup0).toArray 81)) = .ok () (w.alloc (.cells (scells s).toArray 81)) := by
  rw [(LAt.new 81 w (scells sup0)).store (ds := scells s) size29 rfl (scells_all s), setRow_alloc]
theorem store_new23 (w : World) (s : Sup) : (Instr.storeAt 23 (.pointer (some ⟨w.heap.size, 0, none⟩)) (.agg (ccells s).toArray)).run Tryz.prog (w.alloc (.cells (ccells sup0).toArray 23)) = .ok () (w.alloc (.cells (ccells s).toArray 23)) := by
  rw [(LAt.new 23 w (ccells sup0)).store (ds := ccells s) size23 rfl (ccells_all s), setRow_alloc]
/-- equality -/
theorem sup_eq (r s : Sup) : r = s ↔ r.bl = s.bl ∧ r.lc = s.lc ∧ r.mr = s.mr ∧ r.hi = s.hi ∧ r.cl = s.cl ∧ r.tail = s.tail ∧ r.life = s.life := by
  constructor
  · rintro rfl; exact ⟨rfl, rfl, rfl, rfl, rfl, rfl, rfl⟩
  · obtain ⟨a, b, c, d, e, f, g⟩ := r
    obtain ⟨a', b', c', d', e', f', g'⟩ := s
    rintro ⟨h1, h2, h3, h4, h5, h6, h7⟩
    simp only at h1 h2 h3 h4 h5 h6 h7
    subst h1 h2 h3 h4 h5 h6 h7
    rfl
def cfgB (r s : Sup) : Bool := r.bl == s.bl && (r.lc == s.lc && (r.mr == s.mr && (r.hi == s.hi && r.cl == s.cl)))
def supB (r s : Sup) : Bool := cfgB r s && (r.tail == s.tail && r.life == s.life)
theorem supB_iff (r s : Sup) : supB r s = true ↔ r = s := by
  rw [sup_eq]; simp only [supB, cfgB, Bool.and_eq_true, beq_iff_eq]
  constructor
  · rintro ⟨⟨a, b, c, d, e⟩, f, g⟩; exact ⟨a, b, c, d, e, f, g⟩
  · rintro ⟨a, b, c, d, e, f, g⟩; exact ⟨⟨a, b, c, d, e⟩, f, g⟩
theorem supB_same (r : Sup) : supB r r = true := (supB_iff r r).2 rfl
theorem supB_not (r s : Sup) (h : r ≠ s) : supB r s = false := by
  cases hb : supB r s with
  | false => rfl
  | true => exact absurd ((supB_iff r s).1 hb) h
/-- the fields, as the comparison reads them -/
def fl (P : Program) (t : TypeId) : List (Bool × TypeId × Nat) := (P.fieldsOf t).toList.map fun f => (decide (f.name ≠ "_"), f.type, f.offset)
def eqParts (d : Nat) (xs ys : Array Value) : List (Bool × TypeId × Nat) → Sem Bool
  | [] => pure true
  | f :: fs =>
    if f.1 = true then do
      let a ← part f.2.1 xs f.2.2
      let b ← part f.2.1 ys f.2.2
      let r ← Op.equalIn d f.2.1 a b
      if (!r) = true then pure false else eqParts d xs ys fs
    else eqParts d xs ys fs
theorem eqParts_of (d : Nat) (xs ys : Array Value) : ∀ fs : List Field, Op.eqFields d xs ys fs = eqParts d xs ys (fs.map fun f => (decide (f.name ≠ "_"), f.type, f.offset))
  | [] => rfl
  | f :: fs => by
    simp only [Op.eqFields, List.map_cons, eqParts, eqParts_of d xs ys fs, decide_eq_true_eq]
theorem eqParts_cons (w : World) (d : Nat) (xs ys : Array Value) (t : TypeId) (o : Nat) (fs : List (Bool × TypeId × Nat)) {a b : Value} {c : Bool} (ha : (part t xs o).run Tryz.prog w = .ok a w) (hb : (part t ys o).run Tryz.prog w = .ok b w) (he : (Op.equalIn d t a b).run Tryz.prog w = .ok c w) :
    (eqParts d xs ys ((true, t, o) :: fs)).run Tryz.prog w = if c = true then (eqParts d xs ys fs).run Tryz.prog w else .ok false w := by
  rw [eqParts]
  simp only [if_true, Sem.run_bind, ha, hb, he, Result.andThen_ok]
  cases c
  · simp
  · simp
theorem flds29 : Tryz.prog.underlying 81 = some (.struct (Tryz.prog.fieldsOf 81)) := by kernel_rfl
theorem flds23 : Tryz.prog.underlying 23 = some (.struct (Tryz.prog.fieldsOf 23)) := by kernel_rfl
theorem held29 : Tryz.prog.stoodInHeld 81 = false := by kernel_rfl
theorem held23 : Tryz.prog.stoodInHeld 23 = false := by kernel_rfl
theorem eqg29 : Tryz.prog.eqGuardType Tryz.prog.depth 81 = false := by kernel_rfl
def flS : List (Bool × TypeId × Nat) := [(true, 23, 0), (true, 31, 5), (true, 31, 6)]
def flC : List (Bool × TypeId × Nat) := [(true, 3, 0), (true, 3, 1), (true, 3, 2), (true, 3, 3), (true, 3, 4)]
theorem fl29 : fl Tryz.prog 81 = flS := by kernel_rfl
theorem fl23 : fl Tryz.prog 23 = flC := by kernel_rfl
theorem part3 (w : World) (cs : List Value) (o : Nat) (v : Int) (h : cs[o]? = some (.int .i64 v)) : (part 3 cs.toArray o).run Tryz.prog w = .ok (.int .i64 v) w := by
  simp [part, isAgg, run_underlying Tryz.underlying3, h]
theorem part24 (w : World) (cs : List Value) (o : Nat) (v : Int) (h : cs[o]? = some (.int .u64 v)) : (part 31 cs.toArray o).run Tryz.prog w = .ok (.int .u64 v) w := by
  simp [part, isAgg, run_underlying Tryz.underlying31, h]
theorem sizeOf23 (w : World) : (sizeOf 23).run Tryz.prog w = .ok 5 w := by
  cases hi : Tryz.prog.info? 23 with
  | none => have := size23; simp [hi] at this
  | some i =>
    have h := size23
    simp only [hi, Option.map_some, Option.some.injEq] at h
    simp [sizeOf, typeInfo, hi, h]
theorem part23 (w : World) (s : Sup) : (part 23 (scells s).toArray 0).run Tryz.prog w = .ok (.agg (ccells s).toArray) w := by
  have hagg : (isAgg 23).run Tryz.prog w = .ok true w := by
    unfold isAgg
    rw [Sem.run_bind, run_underlying Tryz.underlying23 w]
    rfl
  simp only [part, Sem.run_bind, hagg, Result.andThen_ok, if_true, sizeOf23, Sem.run_pure]
  rfl
theorem equalC (w : World) (d : Nat) (r s : Sup) : (eqParts (d + 1) (ccells r).toArray (ccells s).toArray flC).run Tryz.prog w = .ok (cfgB r s) w := by
  unfold flC cfgB
  rw [eqParts_cons w _ _ _ 3 0 _ (part3 w (ccells r) 0 r.bl rfl) (part3 w (ccells s) 0 s.bl rfl) (run_equalIn_int w d 3 .i64 .i64 _ _ Tryz.underlying3),
    eqParts_cons w _ _ _ 3 1 _ (part3 w (ccells r) 1 r.lc rfl) (part3 w (ccells s) 1 s.lc rfl) (run_equalIn_int w d 3 .i64 .i64 _ _ Tryz.underlying3),
    eqParts_cons w _ _ _ 3 2 _ (part3 w (ccells r) 2 r.mr rfl) (part3 w (ccells s) 2 s.mr rfl) (run_equalIn_int w d 3 .i64 .i64 _ _ Tryz.underlying3),
    eqParts_cons w _ _ _ 3 3 _ (part3 w (ccells r) 3 r.hi rfl) (part3 w (ccells s) 3 s.hi rfl) (run_equalIn_int w d 3 .i64 .i64 _ _ Tryz.underlying3),
    eqParts_cons w _ _ _ 3 4 _ (part3 w (ccells r) 4 r.cl rfl) (part3 w (ccells s) 4 s.cl rfl) (run_equalIn_int w d 3 .i64 .i64 _ _ Tryz.underlying3)]
  have e0 : (eqParts (d + 1) (ccells r).toArray (ccells s).toArray []).run Tryz.prog w = .ok true w := by rw [eqParts]; exact Sem.run_pure ..
  rw [e0]
  cases (r.bl == s.bl) <;> cases (r.lc == s.lc) <;> cases (r.mr == s.mr) <;> cases (r.hi == s.hi) <;> cases (r.cl == s.cl) <;> simp
theorem equal23 (w : World) (d : Nat) (r s : Sup) : (Op.equalIn (d + 2) 23 (.agg (ccells r).toArray) (.agg (ccells s).toArray)).run Tryz.prog w = .ok (cfgB r s) w := by
  rw [run_equalIn_struct w (d + 1) 23 _ _ flds23 held23, eqParts_of, show (Tryz.prog.fieldsOf 23).toList.map (fun f => (decide (f.name ≠ "_"), f.type, f.offset)) = flC from fl23, equalC w d r s]
theorem equalS (w : World) (d : Nat) (r s : Sup) : (eqParts (d + 2) (scells r).toArray (scells s).toArray flS).run Tryz.prog w = .ok (supB r s) w := by
  unfold flS supB
  rw [eqParts_cons w _ _ _ 23 0 _ (part23 w r) (part23 w s) (equal23 w d r s),
    eqParts_cons w _ _ _ 31 5 _ (part24 w (scells r) 5 r.tail rfl) (part24 w (scells s) 5 s.tail rfl) (run_equalIn_int w (d + 1) 31 .u64 .u64 _ _ Tryz.underlying31),
    eqParts_cons w _ _ _ 31 6 _ (part24 w (scells r) 6 r.life rfl) (part24 w (scells s) 6 s.life rfl) (run_equalIn_int w (d + 1) 31 .u64 .u64 _ _ Tryz.underlying31)]
  have e0 : (eqParts (d + 2) (scells r).toArray (scells s).toArray []).run Tryz.prog w = .ok true w := by rw [eqParts]; exact Sem.run_pure ..
  rw [e0]
  cases (cfgB r s) <;> cases (r.tail == s.tail) <;> cases (r.life == s.life) <;> simp
theorem eql29 (w : World) (r s : Sup) : (binOp .eql 81 (.agg (scells r).toArray) (.agg (scells s).toArray)).run Tryz.prog w = .ok (.bool (supB r s)) w := by
  rw [run_eql_struct, run_equalIn_struct w 9999 81 _ _ flds29 held29, eqParts_of, show (Tryz.prog.fieldsOf 81).toList.map (fun f => (decide (f.name ≠ "_"), f.type, f.offset)) = flS from fl29, equalS w 9997 r s]
  rfl
theorem neq29 (w : World) (r s : Sup) : (binOp .neq 81 (.agg (scells r).toArray) (.agg (scells s).toArray)).run Tryz.prog w = .ok (.bool (!supB r s)) w := by
  rw [run_neq_struct, run_equalIn_struct w 9999 81 _ _ flds29 held29, eqParts_of, show (Tryz.prog.fieldsOf 81).toList.map (fun f => (decide (f.name ≠ "_"), f.type, f.offset)) = flS from fl29, equalS w 9997 r s]
  rfl
/-- what a call hands back: a superblock and a number; a superblock -/
theorem results_sup {fn : Func} {p u : Tmp} {ty : TypeId} (h : fn.results = #[.cell p ty, .tmp u]) (tmps : Array Value) (w : World) (g : Nat) (t : TypeId) (s : Sup) (d : TypeDesc)
    (hp : tmps.getD p undef = .pointer (some ⟨g, 0, none⟩)) (hg : SAt t w g s) (hu : Tryz.prog.underlying ty = some d) (hd : d.isRow = true) (hi : (Tryz.prog.info? ty).map (·.size) = some 7) :
    (results fn tmps).run Tryz.prog w = .ok (.tuple #[.agg (scells s).toArray, tmps.getD u undef]) w := by
  rw [results_cell_tmp h, hp]
  simp only [asAddr, Sem.run_pure, Result.andThen_ok, run_loadVar_mid w g 0 ty _ d (LAt.range hg) hu hd (by rw [hi, scells_len])]
theorem results_cell1 {fn : Func} {p : Tmp} {ty : TypeId} (h : fn.results = #[.cell p ty]) (tmps : Array Value) (w : World) (g : Nat) (t : TypeId) (cs : List Value) (d : TypeDesc)
    (hp : tmps.getD p undef = .pointer (some ⟨g, 0, none⟩)) (hg : LAt t w g cs) (hu : Tryz.prog.underlying ty = some d) (hd : d.isRow = true) (hi : (Tryz.prog.info? ty).map (·.size) = some cs.length) :
    (results fn tmps).run Tryz.prog w = .ok (.agg cs.toArray) w := by
  have hp' : tmps[p]?.getD undef = .pointer (some ⟨g, 0, none⟩) := by simpa using hp
  simp [results, h, hp', asAddr, run_loadVar_mid w g 0 ty _ d (LAt.range hg) hu hd hi]
/-- the tables: where each field stands -/
def Flds (w : World) : Prop := ∀ i : Nat, i < 8 → w.cell? ⟨0, 2 * i, none⟩ = some (.int .i64 ((fa.getD i 0 : Nat) : Int)) ∧ w.cell? ⟨0, 2 * i + 1, none⟩ = some (.int .i64 ((fw.getD i 0 : Nat) : Int))
structure Tab (w : World) : Prop where
  half : Half w
  flds : Flds w
theorem Half.later {w w' : World} (h : Half w) (hb : Below w.heap.size w w') : Half w' := fun i hi => by
  have hc := h i hi
  rw [hb.cell (p := ⟨1, i, none⟩) (World.block_lt_of_cell? w _ hc)]
  exact hc
theorem Flds.later {w w' : World} (h : Flds w) (hb : Below w.heap.size w w') : Flds w' := fun i hi => by
  have hc := h i hi
  rw [hb.cell (p := ⟨0, 2 * i, none⟩) (World.block_lt_of_cell? w _ hc.1), hb.cell (p := ⟨0, 2 * i + 1, none⟩) (World.block_lt_of_cell? w _ hc.2)]
  exact hc
theorem Tab.later {w w' : World} (h : Tab w) (hb : Below w.heap.size w w') : Tab w' := ⟨h.half.later hb, h.flds.later hb⟩
end Go.Proofs.YtefnkjajjidfaaaGreatDoor
