/-
  How values and images lie in memory; what the operations on them do, said once.
-/
import Derived.WalkKit
import Derived.WalkSpells
import Derived.WalkLawsBesides
import Derived.Maps.AppendAt
import Derived.Laws.AppendOwn
import Derived.Laws.AppendOwnNone
import Derived.Deep.AppendLies
import Derived.Deep.MidRow
import Derived.ArgAppend
import Derived.Great.BuildSlice
import Derived.Great.FillDense
import Derived.Laws.CopyOwn
import Derived.Lib.AppendZerosOnto
import Derived.BigQuiet
import Derived.Deep.RegionHeld3
import Derived.LaidMore
import Derived.Test.YthcpnfelnonhnaaDoorRows
namespace Go.Proofs.YthcpnfelnonhnaaDoor
open Go.RowKit

/-- each number is a byte's -/
def Bytes (xs : List Int) : Prop := ∀ x ∈ xs, 0 ≤ x ∧ x < 256
theorem Bytes.nil : Bytes [] := fun x h => by cases h
theorem Bytes.take {xs : List Int} (h : Bytes xs) (k : Nat) : Bytes (xs.take k) := fun y hy => h y (List.mem_of_mem_take hy)
theorem Bytes.drop {xs : List Int} (h : Bytes xs) (k : Nat) : Bytes (xs.drop k) := fun y hy => h y (List.mem_of_mem_drop hy)
theorem Bytes.append {xs ys : List Int} (h : Bytes xs) (k : Bytes ys) : Bytes (xs ++ ys) := fun y hy => by
  rcases List.mem_append.1 hy with hy | hy
  · exact h y hy
  · exact k y hy
theorem Bytes.at {xs : List Int} (h : Bytes xs) (i : Nat) (hi : i < xs.length) : 0 ≤ xs[i] ∧ xs[i] < 256 := h _ (List.getElem_mem hi)
theorem Bytes.flatten {ls : List (List Int)} (h : ∀ l ∈ ls, Bytes l) : Bytes ls.flatten := fun x hx => by
  obtain ⟨l, hl, hx⟩ := List.mem_flatten.1 hx
  exact h l hl x hx
abbrev U8 (xs : List Int) : List Value := xs.map (Value.int .u8)
theorem size5 : (Tryd.prog.info? 5).map (·.size) = some 1 := by kernel_rfl
theorem ones_u8 (xs : List Int) : ∀ v ∈ U8 xs, v.oneCell' = true := by
  intro u hu; obtain ⟨x, _, rfl⟩ := List.mem_map.1 hu; rfl
/-- how a slice of ints lies that is read -/
structure IIn (w : World) (k : IntKind) (p : Option Addr) (n : Nat) (ss : List Int) : Prop where
  len : ss.length = n
  cells : 0 < n → ∃ b o, p = some ⟨b, o, none⟩ ∧ ∀ i (h : i < ss.length), w.cell? ⟨b, o + i, none⟩ = some (.int k ss[i])
theorem IIn.later {w w' : World} {k : IntKind} {p : Option Addr} {n : Nat} {ss : List Int} (h : IIn w k p n ss) (hb : Below w.heap.size w w') : IIn w' k p n ss := by
  refine ⟨h.len, fun h0 => ?_⟩
  obtain ⟨b, o, rfl, hc⟩ := h.cells h0
  refine ⟨b, o, rfl, fun i hi => ?_⟩
  rw [hb.cell (p := ⟨b, o + i, none⟩) (World.block_lt_of_cell? w ⟨b, o + i, none⟩ (hc i hi))]
  exact hc i hi
theorem below_alloc (w : World) (o : Obj) : Below w.heap.size w (w.alloc o) := (Below.refl _ _).alloc (Nat.le_refl _) o
/-- one call behind another -/
theorem below_then {a b c : World} (h : Below a.heap.size a b) (k : Below b.heap.size b c) : Below a.heap.size a c := h.trans (k.mono h.size)
theorem below_drawn {B : Nat} {w : World} (nq : Nat) : Below B w (w.drewN nq) := ⟨rfl, rfl, rfl, Nat.le_refl _, fun _ _ => rfl⟩
/-- nothing that lay has turned but what S names -/
structure Kept (S : Nat → Prop) (w w' : World) : Prop where
  os : w'.os = w.os
  tape : w'.tape = w.tape
  output : w'.output = w.output
  size : w.heap.size ≤ w'.heap.size
  block : ∀ b, b < w.heap.size → ¬ S b → w'.heap[b]? = w.heap[b]?
theorem Kept.of_below {w w' : World} (S : Nat → Prop) (h : Below w.heap.size w w') : Kept S w w' := ⟨h.os, h.tape, h.output, h.size, fun b hb _ => h.block b hb⟩
theorem Kept.refl (S : Nat → Prop) (w : World) : Kept S w w := Kept.of_below S (Below.refl _ _)
theorem Kept.trans {S T : Nat → Prop} {a b c : World} (h : Kept S a b) (k : Kept T b c) (hT : ∀ x, x < a.heap.size → T x → S x) : Kept S a c :=
  ⟨k.os.trans h.os, k.tape.trans h.tape, k.output.trans h.output, Nat.le_trans h.size k.size, fun x hx hs => (k.block x (Nat.lt_of_lt_of_le hx h.size) fun t => hs (hT x hx t)).trans (h.block x hx hs)⟩
theorem Kept.wider {S T : Nat → Prop} {a b : World} (h : Kept S a b) (hT : ∀ x, x < a.heap.size → S x → T x) : Kept T a b := ⟨h.os, h.tape, h.output, h.size, fun x hx ht => h.block x hx fun s => ht (hT x hx s)⟩
theorem Kept.below {S : Nat → Prop} {w w' : World} (h : Kept S w w') (hS : ∀ b, b < w.heap.size → ¬ S b) : Below w.heap.size w w' := ⟨h.os, h.tape, h.output, h.size, fun b hb => h.block b hb (hS b hb)⟩
theorem Kept.setCell {w : World} (b o : Nat) (v : Value) : Kept (· = b) w (w.setCell ⟨b, o, none⟩ v) := ⟨rfl, rfl, rfl, by simp, fun k _ hk => Below.heap_setCell _ _ _ _ hk⟩
/-- of memory from B on nothing is said -/
theorem Kept.into {S : Nat → Prop} {B : Nat} {w0 w w' : World} (h : Kept S w w') (hb : Below B w0 w) (hS : ∀ b, b < B → ¬ S b) (hB : B ≤ w0.heap.size) : Below B w0 w' :=
  ⟨h.os.trans hb.os, h.tape.trans hb.tape, h.output.trans hb.output, Nat.le_trans hb.size h.size, fun b hlt => (h.block b (by have := hb.size; omega) (hS b hlt)).trans (hb.block b hlt)⟩
theorem Kept.setRow (w : World) (g : Nat) (cs : Array Value) : Kept (· = g) w (w.setRow g cs) := ⟨rfl, rfl, rfl, by simp [World.setRow], fun k _ hk => setRow_other w g k cs hk⟩
/-- the block that a slice lies in -/
def blk : Value → Option Nat
  | .slice (some a) _ _ => some a.block
  | _ => none
theorem Bytes.getD {xs : List Int} (h : Bytes xs) (i : Nat) : 0 ≤ xs.getD i 0 ∧ xs.getD i 0 < 256 := by
  by_cases hi : i < xs.length
  · simp only [List.getD, List.getElem?_eq_getElem hi, Option.getD_some]; exact h.at i hi
  · simp [List.getD, List.getElem?_eq_none (show xs.length ≤ i by omega)]
/-- a list of lists of one length, one behind the other -/
theorem flat_at {α : Type} {m : Nat} : ∀ (L : List (List α)) (_ : ∀ l ∈ L, l.length = m) (i : Nat) (h : i < L.length) (j : Nat) (_ : j < m), L.flatten[m * i + j]? = L[i][j]?
  | [], _, i, h, _, _ => by simp at h
  | a :: r, hl, 0, _, j, hj => by
    have ha := hl a List.mem_cons_self
    simp only [List.flatten_cons, Nat.mul_zero, Nat.zero_add, List.getElem_cons_zero]
    rw [List.getElem?_append_left (by omega)]
  | a :: r, hl, i + 1, h, j, hj => by
    have ha := hl a List.mem_cons_self
    simp only [List.flatten_cons, List.getElem_cons_succ]
    rw [List.getElem?_append_right (by rw [ha, Nat.mul_add]; omega), ← flat_at r (fun l hl' => hl l (List.mem_cons_of_mem _ hl')) i (by simpa using h) j hj]
    congr 1
    rw [ha, Nat.mul_add]; omega
theorem flat_length {α : Type} {m : Nat} : ∀ (L : List (List α)) (_ : ∀ l ∈ L, l.length = m), L.flatten.length = L.length * m
  | [], _ => by simp
  | a :: r, hl => by
    have ha := hl a List.mem_cons_self
    rw [List.flatten_cons, List.length_append, flat_length r (fun l hl' => hl l (List.mem_cons_of_mem _ hl')), ha, List.length_cons, Nat.add_mul]
    omega
/-- so many zeros -/
def zs (n : Nat) : List Int := List.replicate n 0
theorem zs_len (n : Nat) : (zs n).length = n := by simp [zs]
theorem zs_bytes (n : Nat) : Bytes (zs n) := fun x hx => by
  rw [List.eq_of_mem_replicate hx]; omega
abbrev i64 (x : Int) : Prop := -9223372036854775808 ≤ x ∧ x ≤ 9223372036854775807
theorem U8_length (xs : List Int) : (U8 xs).length = xs.length := by simp
/-- cells lie at the head of a block -/
def LAt (t : TypeId) (w : World) (g : Nat) (cs : List Value) : Prop := w.heap[g]? = some (.cells cs.toArray t (0, 0))
theorem LAt.lt {t : TypeId} {w : World} {g : Nat} {cs : List Value} (h : LAt t w g cs) : g < w.heap.size := (Array.getElem?_eq_some_iff.1 h).1
theorem LAt.later {t : TypeId} {w w' : World} {g : Nat} {cs : List Value} (h : LAt t w g cs) (hb : Below w.heap.size w w') : LAt t w' g cs := (hb.block g h.lt).trans h
theorem LAt.below {t : TypeId} {B : Nat} {w w' : World} {g : Nat} {cs : List Value} (h : LAt t w g cs) (hb : Below B w w') (hg : g < B) : LAt t w' g cs := (hb.block g hg).trans h
theorem LAt.new (t : TypeId) (w : World) (cs : List Value) : LAt t (w.alloc (.cells cs.toArray t)) w.heap.size cs := heap_alloc_new w _
theorem LAt.drew {t : TypeId} {w : World} {g : Nat} {cs : List Value} (h : LAt t w g cs) : LAt t w.drew g cs := h
theorem LAt.cell {t : TypeId} {w : World} {g : Nat} {cs : List Value} (h : LAt t w g cs) (j : Nat) : w.cell? ⟨g, j, none⟩ = cs[j]? := by
  rw [cell_of_row w g j cs.toArray t (0, 0) h]; simp
theorem LAt.range {t : TypeId} {w : World} {g : Nat} {cs : List Value} (h : LAt t w g cs) : w.rangeAt g 0 cs := fun j v hv => by
  rw [Nat.zero_add, h.cell j]; exact hv
theorem LAt.store {t : TypeId} {w : World} {g : Nat} {cs ds : List Value} (h : LAt t w g cs) (ht : (Tryd.prog.info? t).map (·.size) = some ds.length) (hl : ds.length = cs.length) (hd : ds.toArray.all (·.oneCell') = true) :
    (Instr.storeAt t (.pointer (some ⟨g, 0, none⟩)) (.agg ds.toArray)).run Tryd.prog w = .ok () (w.setRow g ds.toArray) := by
  simp only [Instr.storeAt, Instr.sureAddr, Sem.run_bind, Sem.run_pure, Result.andThen_ok, run_storeVar_row w g t t cs.toArray ds.toArray h (by rw [ht, List.size_toArray]) (by rw [List.size_toArray, List.size_toArray, hl]) hd]
theorem LAt.stored {t : TypeId} {w : World} {g : Nat} {cs : List Value} (h : LAt t w g cs) (ds : List Value) : LAt t (w.setRow g ds.toArray) g ds := setRow_heap w g _ _ t (0, 0) h
theorem LAt.other {t : TypeId} {w : World} {g k : Nat} {cs : List Value} (h : LAt t w g cs) (ds : Array Value) (hk : g ≠ k) : LAt t (w.setRow k ds) g cs := (setRow_other w k g ds hk).trans h
theorem LAt.set {t : TypeId} {w : World} {g : Nat} {cs : List Value} (h : LAt t w g cs) (j : Nat) (v : Value) : LAt t (w.setCell ⟨g, j, none⟩ v) g (cs.set j v) := by
  have := heap_setCell_same w g j _ t v h
  simpa [LAt] using this
theorem LAt.setO {t : TypeId} {w : World} {g k : Nat} {cs : List Value} (h : LAt t w g cs) (j : Nat) (v : Value) (hk : g ≠ k) : LAt t (w.setCell ⟨k, j, none⟩ v) g cs := (heap_setCell_other w ⟨k, j, none⟩ g _ hk).trans h
/-- builds -/
theorem part_fill (off : Nat) (vs : List Value) (cs : List Value) (h : off + vs.length ≤ cs.length) :
    vs.toArray.zipIdx.foldl (fun cs (x : Value × Nat) => cs.setIfInBounds (off + x.2) x.1) cs.toArray = (cs.take off ++ vs ++ cs.drop (off + vs.length)).toArray := by
  rw [← Array.foldl_toList, Array.toList_zipIdx]
  obtain ⟨h1, h2⟩ := Great.foldl_set off vs 0 cs.toArray
  apply Array.ext_getElem?
  intro k
  have e := h2 k
  simp only [Nat.add_zero, List.size_toArray] at e
  refine Eq.trans e ?_
  rw [List.getElem?_toArray, List.getElem?_toArray]
  by_cases c1 : k < off
  · rw [if_neg (by omega), List.append_assoc, List.getElem?_append_left (by simp; omega), List.getElem?_take, if_pos c1]
  · by_cases c2 : k < off + vs.length
    · rw [if_pos ⟨by omega, c2, by omega⟩, List.append_assoc, List.getElem?_append_right (by simp; omega), List.getElem?_append_left (by simp; omega)]
      congr 1; simp; omega
    · rw [if_neg (by omega), List.getElem?_append_right (by simp; omega), List.getElem?_drop]
      congr 1; simp; omega
def placesOf (P : Program) (t : TypeId) : Option (List (Nat × Nat)) := (P.underlying t).bind fun d => match d with
  | .struct fs => fs.toList.mapM (fun f => (P.info? f.type).map fun i => (f.offset, i.size))
  | _ => none
theorem built_of (t : TypeId) (ps : List (Nat × Nat)) (z : Value) (parts : List (Nat × Value)) (hp : placesOf Tryd.prog t = some ps) (hz : (Tryd.prog.info? t).bind (·.zero) = some z) : Tryd.prog.built t parts = Instr.fill (ps.toArray[·]?) z.cells parts := by
  unfold Program.built
  unfold placesOf at hp
  cases hu : Tryd.prog.underlying t with
  | none => simp [hu] at hp
  | some d =>
    cases hi : Tryd.prog.info? t with
    | none => simp [hi] at hz
    | some it =>
      simp only [hi, Option.bind_some] at hz
      simp only [hu, Option.bind_some] at hp
      cases d <;> first | (cases hp; done) | (simp only [hz, hp])
theorem fill_step {pl : List (Nat × Nat)} (off n : Nat) (i : Nat) (hp : pl.toArray[i]? = some (off, n)) (v : Value) (vs cs : List Value) (hv : v.cells = vs.toArray) (hn : vs.length = n) (hl : off + n ≤ cs.length) (rest : List (Nat × Value)) :
    Instr.fill (pl.toArray[·]?) cs.toArray ((i, v) :: rest) = Instr.fill (pl.toArray[·]?) (cs.take off ++ vs ++ cs.drop (off + vs.length)).toArray rest := by
  have a0 := part_fill off vs cs (by omega)
  have a1 : vs.toArray.zipIdx.foldl (fun cs x => match x with | (c, j) => cs.setIfInBounds (off + j) c) cs.toArray = (cs.take off ++ vs ++ cs.drop (off + vs.length)).toArray := a0
  simp only [Instr.fill]
  rw [hp]
  dsimp only
  rw [hv]
  simp only [List.size_toArray]
  rw [if_neg (by simp [hn]; omega), a1]
section
variable {P : Program} {ops : Array Oper} {rest : List Oper} {o : Oper} {a : Act} {w w' : World} {Q : Exit → Act → World → Prop}
/-- an operation by what it runs to, guarded or not -/
theorem wpList_val (hgd : Region.wanted o (yielded ops a.tmps) = true) {v : Value} (hrun : (execOp a.eval o).run P w = .ok (.value v) w') (h : wpList P ops Q rest (a.put o.dst v) w') : wpList P ops Q (o :: rest) a w :=
  wpList_step fun K hK => by
    rw [if_pos hgd]
    unfold Oper.wp
    rw [hrun]
    exact hK _ _ h
theorem wpList_skp (hgd : Region.wanted o (yielded ops a.tmps) = true) (hrun : (execOp a.eval o).run P w = .ok .skip w') (h : wpList P ops Q rest (a.put o.dst undef) w') : wpList P ops Q (o :: rest) a w :=
  wpList_step fun K hK => by
    rw [if_pos hgd]
    unfold Oper.wp
    rw [hrun]
    exact hK _ _ h
theorem wpList_load_is (hgd : Region.wanted o (yielded ops a.tmps) = true) (ty : TypeId) {x : Operand} (ho : o.op = .load ty x) {p v : Value} (hx : a.eval x = p) (hrun : (Instr.loadAt ty p).run P w = .ok v w)
    (h : wpList P ops Q rest (a.put o.dst v) w) : wpList P ops Q (o :: rest) a w :=
  wpList_val hgd (by unfold execOp; simp only [ho, hx, Sem.run_bind, hrun, Result.andThen_ok, Sem.run_pure]) h
theorem wpList_build_is (hgd : Region.wanted o (yielded ops a.tmps) = true) (ty : TypeId) {ps : Array (Nat × Operand)} (ho : o.op = .build ty ps) {vs : List (Nat × Value)} {v : Value} (hx : ps.toList.map (fun (i, x) => (i, a.eval x)) = vs) (hrun : (Instr.build ty vs.toArray).run P w = .ok v w)
    (h : wpList P ops Q rest (a.put o.dst v) w) : wpList P ops Q (o :: rest) a w :=
  wpList_val hgd (by unfold execOp; simp only [ho]; rw [show ps.map (fun (i, x) => (i, a.eval x)) = vs.toArray by rw [← hx, ← Array.toList_map]]; simp only [Sem.run_bind, hrun, Result.andThen_ok, Sem.run_pure]) h
theorem wpList_eql_is (hgd : Region.wanted o (yielded ops a.tmps) = true) (ty : TypeId) {x y : Operand} {t2 : TypeId} (ho : o.op = .binOp .eql ty x y t2) {xs ys : Array Value} {v : Value} (hx : a.eval x = .agg xs) (hy : a.eval y = .agg ys) (hg : P.eqGuardType P.depth ty = false) (hrun : (binOp .eql ty (.agg xs) (.agg ys)).run P w = .ok v w)
    (h : wpList P ops Q rest (a.put o.dst v) w) : wpList P ops Q (o :: rest) a w :=
  wpList_val hgd (by unfold execOp; simp only [ho, hx, hy, Sem.run_bind, run_eqGuard_agg w .eql ty x y xs ys hg, hrun, Result.andThen_ok, Sem.run_pure]) h
theorem wpList_neq_is (hgd : Region.wanted o (yielded ops a.tmps) = true) (ty : TypeId) {x y : Operand} {t2 : TypeId} (ho : o.op = .binOp .neq ty x y t2) {xs ys : Array Value} {v : Value} (hx : a.eval x = .agg xs) (hy : a.eval y = .agg ys) (hg : P.eqGuardType P.depth ty = false) (hrun : (binOp .neq ty (.agg xs) (.agg ys)).run P w = .ok v w)
    (h : wpList P ops Q rest (a.put o.dst v) w) : wpList P ops Q (o :: rest) a w :=
  wpList_val hgd (by unfold execOp; simp only [ho, hx, hy, Sem.run_bind, run_eqGuard_agg w .neq ty x y xs ys hg, hrun, Result.andThen_ok, Sem.run_pure]) h
theorem wpList_alloc_is (hgd : Region.wanted o (yielded ops a.tmps) = true) (ty : TypeId) (ho : o.op = .alloc ty) {v : Value} (hrun : (Instr.alloc ty true (.tuple #[])).run P w = .ok v w')
    (h : wpList P ops Q rest (a.put o.dst v) w') : wpList P ops Q (o :: rest) a w :=
  wpList_val hgd (by unfold execOp; simp only [ho, Sem.run_bind, hrun, Result.andThen_ok, Sem.run_pure]) h
theorem wpList_store_is (hgd : Region.wanted o (yielded ops a.tmps) = true) (ty : TypeId) {x y : Operand} (ho : o.op = .store ty x y) {p v : Value} (hx : a.eval x = p) (hy : a.eval y = v) (hrun : (Instr.storeAt ty p v).run P w = .ok () w')
    (h : wpList P ops Q rest (a.put o.dst undef) w') : wpList P ops Q (o :: rest) a w :=
  wpList_skp hgd (by unfold execOp; simp only [ho, hx, hy, Sem.run_bind, hrun, Result.andThen_ok, Sem.run_pure]) h
end
/-- new variables, and stores of whole records -/
theorem zv (t : TypeId) (z : Value) (hz : (Tryd.prog.info? t).bind (·.zero) = some z) (w : World) : (zeroValue t).run Tryd.prog w = .ok z w := by
  cases hi : Tryd.prog.info? t with
  | none => simp [hi] at hz
  | some it =>
    simp only [hi, Option.bind_some] at hz
    simp [zeroValue, typeInfo, hi, hz]
/-- a new variable stored whole -/
theorem world_ext : ∀ (u v : World), u.heap = v.heap → u.tape = v.tape → u.drawn = v.drawn → u.os = v.os → u.output = v.output → u = v
  | ⟨_, _, _, _, _⟩, ⟨_, _, _, _, _⟩, h1, h2, h3, h4, h5 => by
    simp only at h1 h2 h3 h4 h5
    subst h1 h2 h3 h4 h5
    rfl
theorem setRow_alloc (w : World) (a b : Array Value) (t : TypeId) : (w.alloc (.cells a t)).setRow w.heap.size b = w.alloc (.cells b t) := by
  refine world_ext _ _ ?_ rfl rfl rfl rfl
  apply Array.ext_getElem?
  intro k
  by_cases c : k = w.heap.size
  · subst c
    rw [setRow_heap _ _ a b t (0, 0) (heap_alloc_new w _), heap_alloc_new]
  · rw [setRow_other _ _ _ _ c]
    show (w.heap.push _)[k]? = (w.heap.push _)[k]?
    rw [Array.getElem?_push, Array.getElem?_push, if_neg c, if_neg c]
/-- the fields, as the comparison reads them -/
def fl (P : Program) (t : TypeId) : List (Bool × TypeId × Nat) := (P.fieldsOf t).toList.map fun f => (decide (f.name ≠ "_"), f.type, f.offset)
def eqParts (d : Nat) (xs ys : Array Value) : List (Bool × TypeId × Nat) → Sem Bool
  | [] => pure true
  | f :: fs =>
    if f.1 = true then do
      let a ← part f.2.1 xs f.2.2
      let b ← part f.2.1 ys f.2.2
      let r ← Op.equalIn d f.2.1 a b
      if (!r) = true then pure false else eqParts d xs ys fs
    else eqParts d xs ys fs
theorem eqParts_of (d : Nat) (xs ys : Array Value) : ∀ fs : List Field, Op.eqFields d xs ys fs = eqParts d xs ys (fs.map fun f => (decide (f.name ≠ "_"), f.type, f.offset))
  | [] => rfl
  | f :: fs => by
    simp only [Op.eqFields, List.map_cons, eqParts, eqParts_of d xs ys fs, decide_eq_true_eq]
theorem eqParts_cons (w : World) (d : Nat) (xs ys : Array Value) (t : TypeId) (o : Nat) (fs : List (Bool × TypeId × Nat)) {a b : Value} {c : Bool} (ha : (part t xs o).run Tryd.prog w = .ok a w) (hb : (part t ys o).run Tryd.prog w = .ok b w) (he : (Op.equalIn d t a b).run Tryd.prog w = .ok c w) :
    (eqParts d xs ys ((true, t, o) :: fs)).run Tryd.prog w = if c = true then (eqParts d xs ys fs).run Tryd.prog w else .ok false w := by
  rw [eqParts]
  simp only [if_true, Sem.run_bind, ha, hb, he, Result.andThen_ok]
  cases c
  · simp
  · simp
theorem part3 (w : World) (cs : List Value) (o : Nat) (v : Int) (h : cs[o]? = some (.int .i64 v)) : (part 3 cs.toArray o).run Tryd.prog w = .ok (.int .i64 v) w := by
  simp [part, isAgg, run_underlying Tryd.underlying3, h]
theorem results_cell1 {fn : Func} {p : Tmp} {ty : TypeId} (h : fn.results = #[.cell p ty]) (tmps : Array Value) (w : World) (g : Nat) (t : TypeId) (cs : List Value) (d : TypeDesc)
    (hp : tmps.getD p undef = .pointer (some ⟨g, 0, none⟩)) (hg : LAt t w g cs) (hu : Tryd.prog.underlying ty = some d) (hd : d.isRow = true) (hi : (Tryd.prog.info? ty).map (·.size) = some cs.length) :
    (results fn tmps).run Tryd.prog w = .ok (.agg cs.toArray) w := by
  have hp' : tmps[p]?.getD undef = .pointer (some ⟨g, 0, none⟩) := by simpa using hp
  simp [results, h, hp', asAddr, run_loadVar_mid w g 0 ty _ d (LAt.range hg) hu hd hi]
theorem at_ops {P : Program} {ops : Array Oper} {rest : List Oper} {o : Oper} {a : Act} {w : World} {Q : Exit → Act → World → Prop} (h : wpList P ops Q (o :: rest) a w) : wpList P ops Q (o :: rest) a w := h
theorem rangeAt_same {w w' : World} {g o : Nat} {cs : List Value} (h : w.rangeAt g o cs) (e : w'.heap[g]? = w.heap[g]?) : w'.rangeAt g o cs := fun j v hv => by
  rw [World.cell?_of_block (w := w) (a := ⟨g, o + j, none⟩) e]; exact h j v hv
/-- an image; a transaction; what a log says -/
structure Im where
  b : Int
  v : List Int
structure Im.Wf (i : Im) : Prop where
  b : i64 i.b
  len : i.v.length = 32
  byte : Bytes i.v
def ImsWf (l : List Im) : Prop := ∀ i ∈ l, i.Wf
theorem ImsWf.nil : ImsWf [] := fun _ h => by cases h
theorem ImsWf.snoc {l : List Im} (h : ImsWf l) {i : Im} (hi : i.Wf) : ImsWf (l ++ [i]) := fun x hx => by
  rcases List.mem_append.1 hx with hx | hx
  · exact h x hx
  · rw [List.mem_singleton.1 hx]; exact hi
theorem ImsWf.append {l m : List Im} (h : ImsWf l) (k : ImsWf m) : ImsWf (l ++ m) := fun x hx => (List.mem_append.1 hx).elim (h x) (k x)
theorem sizeV : (Tryd.prog.info? 52).map (·.size) = some 32 := by kernel_rfl
theorem zeroV : (Tryd.prog.info? 52).bind (·.zero) = some (.agg (U8 (zs 32)).toArray) := by kernel_rfl
theorem sizeOf5 (w : World) : (sizeOf 5).run Tryd.prog w = .ok 1 w := by
  cases hi : Tryd.prog.info? 5 with
  | none => have := size5; simp [hi] at this
  | some i =>
    have h := size5
    simp only [hi, Option.map_some, Option.some.injEq] at h
    simp [sizeOf, typeInfo, hi, h]
theorem all_range_eq : ∀ (xs ys : List Int), xs.length = ys.length → ((List.range xs.length).all fun i => xs.getD i 0 == ys.getD i 0) = decide (xs = ys)
  | [], [], _ => rfl
  | x :: xs, y :: ys, h => by
    have ih := all_range_eq xs ys (by simpa using h)
    rw [List.length_cons, List.range_succ_eq_map, List.all_cons, List.all_map]
    simp only [List.getD_cons_zero, Function.comp_def, List.getD_cons_succ, ih]
    rw [Bool.eq_iff_iff]
    simp
  | [], _ :: _, h => by simp at h
  | _ :: _, [], h => by simp at h
theorem equalV (w : World) (d : Nat) (xs ys : List Int) (hx : xs.length = 32) (hy : ys.length = 32) :
    (Op.equalIn (d + 2) 52 (.agg (U8 xs).toArray) (.agg (U8 ys).toArray)).run Tryd.prog w = .ok (decide (xs = ys)) w := by
  rw [← all_range_eq xs ys (hx.trans hy.symm), hx, List.range_eq_range', Op.equalIn]
  simp only [Sem.run_bind, run_underlying Tryd.underlying52, Result.andThen_ok, sizeOf5, Std.Legacy.Range.forIn_eq_forIn_range', Std.Legacy.Range.size, Nat.sub_zero, Nat.add_sub_cancel, Nat.div_one]
  have hl : ∀ i ∈ List.range' 0 32 1, i < 32 := fun i hi => by simpa using (List.mem_range'_1.1 hi).2
  generalize List.range' 0 32 1 = l at hl ⊢
  induction l with
  | nil => simp
  | cons i l ih =>
    have hi : i < 32 := hl i (by simp)
    have px : (part 5 (U8 xs).toArray (i * 1)).run Tryd.prog w = .ok (.int .u8 (xs.getD i 0)) w := by
      simp [part, isAgg, run_underlying Tryd.underlying5, List.getD, List.getElem?_eq_getElem (show i < xs.length by omega)]
    have py : (part 5 (U8 ys).toArray (i * 1)).run Tryd.prog w = .ok (.int .u8 (ys.getD i 0)) w := by
      simp [part, isAgg, run_underlying Tryd.underlying5, List.getD, List.getElem?_eq_getElem (show i < ys.length by omega)]
    have pe : (Op.equalIn (d + 1) 5 (.int .u8 (xs.getD i 0)) (.int .u8 (ys.getD i 0))).run Tryd.prog w = .ok (xs.getD i 0 == ys.getD i 0) w := run_equalIn_int w d 5 .u8 .u8 _ _ Tryd.underlying5
    simp only [List.forIn_cons, Sem.run_bind, px, py, pe, Result.andThen_ok, List.all_cons]
    cases hb : (xs.getD i 0 == ys.getD i 0)
    · simp
    · simp only [Bool.not_true, Bool.false_eq_true, if_false, Sem.run_pure, Result.andThen_ok, Bool.true_and]
      exact ih fun j hj => hl j (by simp [hj])
theorem eqlV (w : World) (xs ys : List Int) (hx : xs.length = 32) (hy : ys.length = 32) :
    (binOp .eql 52 (.agg (U8 xs).toArray) (.agg (U8 ys).toArray)).run Tryd.prog w = .ok (.bool (decide (xs = ys))) w := by
  rw [run_eql_struct, equalV w 9998 xs ys hx hy]
  rfl
theorem neqV (w : World) (xs ys : List Int) (hx : xs.length = 32) (hy : ys.length = 32) :
    (binOp .neq 52 (.agg (U8 xs).toArray) (.agg (U8 ys).toArray)).run Tryd.prog w = .ok (.bool (!decide (xs = ys))) w := by
  rw [run_neq_struct, equalV w 9998 xs ys hx hy]
  rfl
theorem eqgV : Tryd.prog.eqGuardType Tryd.prog.depth 52 = false := by kernel_rfl
theorem allV (v : List Int) : (U8 v).toArray.all (·.oneCell') = true := all_oneCell_toArray (ones_u8 v)
theorem allocV (w : World) : (Instr.alloc 52 true (.tuple #[])).run Tryd.prog w = .ok (.pointer (some ⟨w.heap.size, 0, none⟩)) (w.alloc (.cells (U8 (zs 32)).toArray 52)) := by
  simp only [Instr.alloc, Sem.run_bind, zv 52 _ zeroV, Result.andThen_ok]
  simp [newVar, newRow, Value.cells]
/-- a value lies there -/
abbrev VAt (w : World) (g : Nat) (v : List Int) : Prop := LAt 52 w g (U8 v)
theorem VAt.load {w : World} {g : Nat} {v : List Int} (h : VAt w g v) (hv : v.length = 32) : (Instr.loadAt 52 (.pointer (some ⟨g, 0, none⟩))).run Tryd.prog w = .ok (.agg (U8 v).toArray) w :=
  run_loadAt_mid w g 0 52 (U8 v) _ (LAt.range h) Tryd.underlying52 rfl (by rw [sizeV, U8_length, hv])
theorem VAt.store {w : World} {g : Nat} {u v : List Int} (h : VAt w g u) (hu : u.length = 32) (hv : v.length = 32) : (Instr.storeAt 52 (.pointer (some ⟨g, 0, none⟩)) (.agg (U8 v).toArray)).run Tryd.prog w = .ok () (w.setRow g (U8 v).toArray) :=
  LAt.store (ds := U8 v) h (by rw [sizeV, U8_length, hv]) (by rw [U8_length, U8_length, hu, hv]) (allV v)
theorem results_val {fn : Func} {p u : Tmp} {ty : TypeId} (h : fn.results = #[.cell p ty, .tmp u]) (tmps : Array Value) (w : World) (g : Nat) (v : List Int) (d : TypeDesc)
    (hp : tmps.getD p undef = .pointer (some ⟨g, 0, none⟩)) (hg : VAt w g v) (hv : v.length = 32) (hu : Tryd.prog.underlying ty = some d) (hd : d.isRow = true) (hi : (Tryd.prog.info? ty).map (·.size) = some 32) :
    (results fn tmps).run Tryd.prog w = .ok (.tuple #[.agg (U8 v).toArray, tmps.getD u undef]) w := by
  rw [results_cell_tmp h, hp]
  simp only [asAddr, Sem.run_pure, Result.andThen_ok, run_loadVar_mid w g 0 ty _ d (LAt.range hg) hu hd (by rw [hi, U8_length, hv])]
theorem sizeI : (Tryd.prog.info? 55).map (·.size) = some 33 := by kernel_rfl
/-- an image's cells; those of images one behind the other -/
def icells (i : Im) : List Value := .int .i64 i.b :: U8 i.v
def im0 : Im := ⟨0, zs 32⟩
theorem icells_len {i : Im} (h : i.v.length = 32) : (icells i).length = 33 := by simp [icells, h]
theorem icells_ones (i : Im) : ∀ v ∈ icells i, v.oneCell' = true := fun v hv => by
  rcases List.mem_cons.1 hv with rfl | hv
  · rfl
  · exact ones_u8 _ v hv
theorem icells_all (i : Im) : (icells i).toArray.all (·.oneCell') = true := all_oneCell_toArray (icells_ones i)
def IC (l : List Im) : List Value := (l.map icells).flatten
theorem IC_nil : IC [] = [] := rfl
theorem IC_snoc (l : List Im) (i : Im) : IC (l ++ [i]) = IC l ++ icells i := by simp [IC]
theorem IC_append (l m : List Im) : IC (l ++ m) = IC l ++ IC m := by simp [IC]
theorem IC_len {l : List Im} (h : ImsWf l) : (IC l).length = l.length * 33 := by
  have := flat_length (m := 33) (l.map icells) (fun x hx => by
    obtain ⟨i, hi, rfl⟩ := List.mem_map.1 hx
    exact icells_len (h i hi).len)
  rw [List.length_map] at this
  exact this
theorem IC_at {l : List Im} (h : ImsWf l) {k : Nat} {i : Im} (hk : l[k]? = some i) (j : Nat) (hj : j < 33) : (IC l)[33 * k + j]? = (icells i)[j]? := by
  obtain ⟨hk', e⟩ := List.getElem?_eq_some_iff.1 hk
  have := flat_at (m := 33) (l.map icells) (fun x hx => by
    obtain ⟨i, hi, rfl⟩ := List.mem_map.1 hx
    exact icells_len (h i hi).len) k (by simpa using hk') j hj
  rw [IC, this]
  simp [e]
theorem IC_ones (l : List Im) : ∀ v ∈ IC l, v.oneCell' = true := fun v hv => by
  obtain ⟨c, hc, hv⟩ := List.mem_flatten.1 hv
  obtain ⟨i, _, rfl⟩ := List.mem_map.1 hc
  exact icells_ones i v hv
def plI : List (Nat × Nat) := [(0, 1), (1, 32)]
theorem placesI : placesOf Tryd.prog 55 = some plI := by kernel_rfl
theorem zeroI : (Tryd.prog.info? 55).bind (·.zero) = some (.agg (icells im0).toArray) := by kernel_rfl
theorem infoI : (Tryd.prog.info? 55).map (fun i => (i.zero, i.size, i.bytes)) = some (some (.agg (icells im0).toArray), 33, 40) := by kernel_rfl
theorem fill_ib (i : Im) (h : i.v.length = 32) (b : Int) (rest : List (Nat × Value)) : Instr.fill (plI.toArray[·]?) (icells i).toArray ((0, .int .i64 b) :: rest) = Instr.fill (plI.toArray[·]?) (icells ⟨b, i.v⟩).toArray rest :=
  fill_step 0 1 0 rfl _ [.int .i64 b] _ rfl rfl (by rw [icells_len h]; omega) rest
theorem fill_iv (i : Im) (h : i.v.length = 32) (v : List Int) (hv : v.length = 32) (rest : List (Nat × Value)) : Instr.fill (plI.toArray[·]?) (icells i).toArray ((1, .agg (U8 v).toArray) :: rest) = Instr.fill (plI.toArray[·]?) (icells ⟨i.b, v⟩).toArray rest := by
  rw [fill_step 1 32 1 rfl _ (U8 v) _ rfl (by rw [U8_length, hv]) (by rw [icells_len h]; omega) rest]
  congr 2
  rw [U8_length, hv]
  simp only [icells, List.take_succ_cons, List.take_zero, List.cons_append, List.nil_append, List.drop_succ_cons]
  rw [List.drop_of_length_le (by rw [U8_length, h]; omega), List.append_nil]
theorem buildI (w : World) (b : Int) (v : List Int) (hv : v.length = 32) : (Instr.build 55 #[(0, .int .i64 b), (1, .agg (U8 v).toArray)]).run Tryd.prog w = .ok (.agg (icells ⟨b, v⟩).toArray) w := by
  refine run_build w 55 _ _ ((built_of 55 _ _ _ placesI zeroI).trans ?_)
  show Instr.fill (plI.toArray[·]?) (icells im0).toArray [(0, .int .i64 b), (1, .agg (U8 v).toArray)] = _
  rw [fill_ib im0 (zs_len 32), fill_iv ⟨b, im0.v⟩ (zs_len 32) v hv]; rfl
theorem buildIb (w : World) (b : Int) : (Instr.build 55 #[(0, .int .i64 b)]).run Tryd.prog w = .ok (.agg (icells ⟨b, zs 32⟩).toArray) w := by
  refine run_build w 55 _ _ ((built_of 55 _ _ _ placesI zeroI).trans ?_)
  show Instr.fill (plI.toArray[·]?) (icells im0).toArray [(0, .int .i64 b)] = _
  rw [fill_ib im0 (zs_len 32)]; rfl
theorem allocI (w : World) : (Instr.alloc 55 true (.tuple #[])).run Tryd.prog w = .ok (.pointer (some ⟨w.heap.size, 0, none⟩)) (w.alloc (.cells (icells im0).toArray 55)) := by
  simp only [Instr.alloc, Sem.run_bind, zv 55 _ zeroI, Result.andThen_ok]
  simp [newVar, newRow, Value.cells]
theorem store_newI (w : World) (i : Im) (hi : i.v.length = 32) : (Instr.storeAt 55 (.pointer (some ⟨w.heap.size, 0, none⟩)) (.agg (icells i).toArray)).run Tryd.prog (w.alloc (.cells (icells im0).toArray 55)) = .ok () (w.alloc (.cells (icells i).toArray 55)) := by
  rw [(LAt.new 55 w (icells im0)).store (ds := icells i) (by rw [sizeI, icells_len hi]) (by rw [icells_len hi, icells_len (zs_len 32)]) (icells_all i), setRow_alloc]
theorem LAt.loadI {t : TypeId} {w : World} {g : Nat} {i : Im} (h : LAt t w g (icells i)) (hi : i.v.length = 32) : (Instr.loadAt 55 (.pointer (some ⟨g, 0, none⟩))).run Tryd.prog w = .ok (.agg (icells i).toArray) w :=
  run_loadAt_mid w g 0 55 (icells i) _ (LAt.range h) Tryd.underlying55 rfl (by rw [sizeI, icells_len hi])
theorem LAt.vrangeI {t : TypeId} {w : World} {g : Nat} {i : Im} (h : LAt t w g (icells i)) : w.rangeAt g 1 (U8 i.v) := fun j v hv => by
  rw [LAt.cell h (1 + j), Nat.add_comm]; exact hv
theorem LAt.loadIv {t : TypeId} {w : World} {g : Nat} {i : Im} (h : LAt t w g (icells i)) (hi : i.v.length = 32) : (Instr.loadAt 52 (.pointer (some ⟨g, 1, none⟩))).run Tryd.prog w = .ok (.agg (U8 i.v).toArray) w :=
  run_loadAt_mid w g 1 52 (U8 i.v) _ (LAt.vrangeI h) Tryd.underlying52 rfl (by rw [sizeV, U8_length, hi])
/-- one image as a slice -/
theorem build_im (w : World) (i : Im) (hi' : i.v.length = 32) : (Instr.buildSlice 45 1 #[(0, .agg (icells i).toArray)]).run Tryd.prog w = .ok (.slice (some ⟨w.heap.size, 0, none⟩) 1 1) (w.alloc (.cells (icells i).toArray 55)) := by
  obtain ⟨i0, hi, hz0, hz1, hz2⟩ := info_parts infoI
  refine run_buildSlice w 45 55 1 _ _ i0 _ Tryd.underlying45 hi hz0 (by rw [hz1]; decide) (by rw [hz1]; decide) ?_
  rw [hz1]
  have hl : (icells i).length = 33 := icells_len hi'
  have hA : ∀ A : Array Value, A.size = 33 → Instr.fill (fun i => some (i * 33, 33)) A [(0, .agg (icells i).toArray)] = some (icells i).toArray := by
    intro A hA
    have a0 := part_fill 0 (icells i) A.toList (by simp; omega)
    simp only [Instr.fill, Value.cells, List.size_toArray, Nat.zero_mul]
    rw [if_neg (by simp [hl, hA])]
    have a0' : (icells i).toArray.zipIdx.foldl (fun cs x => match x with | (c, j) => cs.setIfInBounds (0 + j) c) A = ((A.toList.take 0 ++ icells i ++ A.toList.drop (0 + (icells i).length))).toArray := a0
    rw [a0', List.drop_eq_nil_of_le (by simp [hl, hA])]
    simp
  exact hA _ (by simp)
/-- images that can be read -/
structure MIn (w : World) (p : Option Addr) (n : Nat) (l : List Im) : Prop where
  len : l.length = n
  wf : ImsWf l
  cells : 0 < n → ∃ b o, p = some ⟨b, o, none⟩ ∧ w.rangeAt b o (IC l)
theorem MIn.nil (w : World) (p : Option Addr) : MIn w p 0 [] := ⟨rfl, ImsWf.nil, fun h => absurd h (Nat.lt_irrefl 0)⟩
theorem range_lt {w : World} {b o : Nat} {cs : List Value} (h : w.rangeAt b o cs) (h0 : 0 < cs.length) : b < w.heap.size := by
  have := h 0 cs[0] (by rw [List.getElem?_eq_getElem h0])
  exact World.block_lt_of_cell? w _ this
theorem range_block {w w' : World} {b o : Nat} {cs : List Value} (h : w.rangeAt b o cs) (hb : w'.heap[b]? = w.heap[b]?) : w'.rangeAt b o cs := fun j v hv => (World.cell?_of_block (a := ⟨b, o + j, none⟩) hb).trans (h j v hv)
theorem MIn.later {w w' : World} {p : Option Addr} {n : Nat} {l : List Im} (h : MIn w p n l) (hb : Below w.heap.size w w') : MIn w' p n l := by
  refine ⟨h.len, h.wf, fun h0 => ?_⟩
  obtain ⟨b, o, e, hr⟩ := h.cells h0
  exact ⟨b, o, e, range_block hr (hb.block b (range_lt hr (by rw [IC_len h.wf, h.len]; omega)))⟩
theorem MIn.at {w : World} {b o n : Nat} {l : List Im} (h : MIn w (some ⟨b, o, none⟩) n l) {k : Nat} {i : Im} (hk : l[k]? = some i) : w.rangeAt b (o + k * 33) (icells i) := fun j v hv => by
  have hk' := (List.getElem?_eq_some_iff.1 hk).1
  obtain ⟨b', o', e, hr⟩ := h.cells (by rw [← h.len]; omega)
  cases e
  have hj : j < 33 := by have := (List.getElem?_eq_some_iff.1 hv).1; rw [icells_len (h.wf i (List.mem_of_getElem? hk)).len] at this; exact this
  have := hr (33 * k + j) v (by rw [IC_at h.wf hk j hj]; exact hv)
  rw [show o + k * 33 + j = o + (33 * k + j) by omega]; exact this
theorem MIn.c0 {w : World} {b o n : Nat} {l : List Im} (h : MIn w (some ⟨b, o, none⟩) n l) {k : Nat} {i : Im} (hk : l[k]? = some i) : w.cell? ⟨b, o + k * 33, none⟩ = some (.int .i64 i.b) := h.at hk 0 _ rfl
theorem MIn.load {w : World} {b o n : Nat} {l : List Im} (h : MIn w (some ⟨b, o, none⟩) n l) {k : Nat} {i : Im} (hk : l[k]? = some i) : (Instr.loadAt 55 (.pointer (some ⟨b, o + k * 33, none⟩))).run Tryd.prog w = .ok (.agg (icells i).toArray) w :=
  run_loadAt_mid w b (o + k * 33) 55 (icells i) _ (h.at hk) Tryd.underlying55 rfl (by rw [sizeI, icells_len (h.wf i (List.mem_of_getElem? hk)).len])
theorem MIn.take {w : World} {p : Option Addr} {n : Nat} {l : List Im} (h : MIn w p n l) (k : Nat) (hk : k ≤ n) : MIn w p k (l.take k) := by
  refine ⟨by rw [List.length_take, h.len]; omega, fun x hx => h.wf x (List.mem_of_mem_take hx), fun h0 => ?_⟩
  obtain ⟨b, o, e, hr⟩ := h.cells (by omega)
  refine ⟨b, o, e, fun j v hv => hr j v ?_⟩
  have e2 : IC l = IC (l.take k) ++ IC (l.drop k) := by rw [← IC_append, List.take_append_drop]
  rw [e2, List.getElem?_append_left (List.getElem?_eq_some_iff.1 hv).1]; exact hv
/-- a row of images that is ours -/
abbrev IOwn (w : World) (B : Nat) (v : Value) (l : List Im) : Prop := w.ownsRow B 55 33 v l.length (IC l)
theorem IOwn.in {w : World} {B : Nat} {v : Value} {l : List Im} (h : IOwn w B v l) (hw : ImsWf l) : ∃ p c, v = .slice p l.length c ∧ MIn w p l.length l ∧ l.length ≤ c ∧ c ≤ maxLen := by
  rcases h.2 with ⟨e, e2⟩ | ⟨g, cap, cur, e, _, hg, h1, h2, h3, h4⟩
  · refine ⟨none, 0, by rw [e, e2], ?_, by omega, by decide⟩
    exact ⟨rfl, hw, fun h0 => by omega⟩
  · refine ⟨_, cap, e, ⟨rfl, hw, fun _ => ⟨g, 0, rfl, fun j v hv => ?_⟩⟩, h1, h2⟩
    rw [Nat.zero_add, cell_of_row w g j cur 55 (0, 0) hg]
    have hj := (List.getElem?_eq_some_iff.1 hv).1
    rw [← h4, List.getElem?_take] at hv
    split at hv
    · simpa using hv
    · cases hv
theorem own_at {w : World} {B C s n m : Nat} {e : TypeId} {u : Value} {xs : List Value} (h : w.ownsRow B e s u n xs) (hC : ∀ k, u.ownBlock = some k → C ≤ k) (hm : n = m) : w.ownsRow C e s u m xs := by
  subst hm
  rcases h.2 with ⟨h1, h2⟩ | ⟨g, cap, cur, h1, _, h3⟩
  · exact ⟨h.1, .inl ⟨h1, h2⟩⟩
  · exact ⟨h.1, .inr ⟨g, cap, cur, h1, hC g (by rw [h1]; rfl), h3⟩⟩
theorem grown_of_below {V V' : World} (h : Below V.heap.size V V') : V.grownBy V' none := ⟨h.os, h.tape, h.output, h.size, fun k hk _ => h.block k hk⟩
theorem IOwn.later {w w' : World} {B : Nat} {v : Value} {l : List Im} (h : IOwn w B v l) (hb : Below w.heap.size w w') : IOwn w' B v l := h.kept (grown_of_below hb) (by cases hh : v.ownBlock <;> simp)
theorem LAt.free {t : TypeId} {w : World} {g : Nat} {cs : List Value} (h : LAt t w g cs) (j : Nat) : w.frozen? ⟨g, j, none⟩ = false := by
  unfold World.frozen?
  rw [show w.heap[(⟨g, j, none⟩ : Addr).block]? = some (.cells cs.toArray t (0, 0)) from h]
  simp
theorem results_lat {fn : Func} {p u : Tmp} {ty : TypeId} (h : fn.results = #[.cell p ty, .tmp u]) (tmps : Array Value) (w : World) (g : Nat) (t : TypeId) (cs : List Value) (d : TypeDesc)
    (hp : tmps.getD p undef = .pointer (some ⟨g, 0, none⟩)) (hg : LAt t w g cs) (hu : Tryd.prog.underlying ty = some d) (hd : d.isRow = true) (hi : (Tryd.prog.info? ty).map (·.size) = some cs.length) :
    (results fn tmps).run Tryd.prog w = .ok (.tuple #[.agg cs.toArray, tmps.getD u undef]) w := by
  rw [results_cell_tmp h, hp]
  simp only [asAddr, Sem.run_pure, Result.andThen_ok, run_loadVar_mid w g 0 ty _ d (LAt.range hg) hu hd hi]
theorem lat_not_row {w : World} {k B : Nat} {t e : TypeId} {sz n : Nat} {v : Value} {xs cs : List Value} (h : LAt t w k cs) (hte : t ≠ e) (hr : w.ownsRow B e sz v n xs) : v.ownBlock ≠ some k := fun e' => by
  rcases hr.2 with ⟨rfl, _⟩ | ⟨g, cap, cur, rfl, _, hg, _⟩
  · cases e'
  · simp only [Value.ownBlock, Option.some.injEq] at e'
    subst e'
    rw [show w.heap[g]? = _ from h] at hg
    cases hg
    exact hte rfl
section
variable {P : Program} {ops : Array Oper} {rest : List Oper} {o : Oper} {a : Act} {w w' : World} {Q : Exit → Act → World → Prop}
theorem wpList_slice_is (hgd : Region.wanted o (yielded ops a.tmps) = true) (ty : TypeId) {x : Operand} (ho : o.op = .buildSlice ty 1 #[(0, x)]) {u v : Value} (hx : a.eval x = u) (hrun : (Instr.buildSlice ty 1 #[(0, u)]).run P w = .ok v w') (h : wpList P ops Q rest (a.put o.dst v) w') : wpList P ops Q (o :: rest) a w :=
  wpList_val hgd (by
    have e : (#[(0, x)] : Array (Nat × Operand)).map (fun (i, y) => (i, a.eval y)) = #[(0, u)] := by simp [hx]
    unfold execOp; simp only [ho]; rw [e]; simp only [Sem.run_bind, hrun, Result.andThen_ok, Sem.run_pure]) h
theorem wpList_append_is (hgd : Region.wanted o (yielded ops a.tmps) = true) {s x : Operand} {t ty : TypeId} (ho : o.op = .call { callee := .builtin .append, args := #[s, x], argTypes := #[t, t] }) (hty : o.type = ty) {u1 u2 v : Value} (hs : a.eval s = u1) (hx : a.eval x = u2) (hrun : (Builtin.append_ #[t, t] ty #[u1, u2]).run P w = .ok v w') (h : wpList P ops Q rest (a.put o.dst v) w') : wpList P ops Q (o :: rest) a w :=
  wpList_val hgd (by subst hty; simp [execOp, ho, resolve, invoke, builtin, hs, hx, hrun, Result.andThen]) h
end
theorem fldsI : Tryd.prog.underlying 55 = some (.struct (Tryd.prog.fieldsOf 55)) := by kernel_rfl
theorem heldI : Tryd.prog.stoodInHeld 55 = false := by kernel_rfl
theorem eqgI : Tryd.prog.eqGuardType Tryd.prog.depth 55 = false := by kernel_rfl
def flI : List (Bool × TypeId × Nat) := [(true, 3, 0), (true, 52, 1)]
theorem flI_is : fl Tryd.prog 55 = flI := by kernel_rfl
theorem sizeOfV (w : World) : (sizeOf 52).run Tryd.prog w = .ok 32 w := by
  cases hi : Tryd.prog.info? 52 with
  | none => have := sizeV; simp [hi] at this
  | some i =>
    have h := sizeV
    simp only [hi, Option.map_some, Option.some.injEq] at h
    simp [sizeOf, typeInfo, hi, h]
set_option maxRecDepth 100000 in
theorem partV (w : World) (i : Im) (h : i.v.length = 32) : (part 52 (icells i).toArray 1).run Tryd.prog w = .ok (.agg (U8 i.v).toArray) w := by
  have hagg : (isAgg 52).run Tryd.prog w = .ok true w := by
    unfold isAgg
    rw [Sem.run_bind, run_underlying Tryd.underlying52 w]
    rfl
  have hx : (icells i).toArray.extract 1 (1 + 32) = (U8 i.v).toArray := by
    rw [List.extract_toArray]
    congr 1
    show ((icells i).drop 1).take (1 + 32 - 1) = _
    rw [show (icells i).drop 1 = U8 i.v from rfl, List.take_of_length_le (by rw [U8_length, h]; omega)]
  simp only [part, Sem.run_bind, hagg, Result.andThen_ok, if_true, sizeOfV, Sem.run_pure, hx]
def imB (i j : Im) : Bool := i.b == j.b && decide (i.v = j.v)
theorem imB_iff (i j : Im) : imB i j = true ↔ i = j := by
  obtain ⟨a, b⟩ := i; obtain ⟨c, d⟩ := j
  simp [imB]
theorem equalI (w : World) (d : Nat) (i j : Im) (hi : i.v.length = 32) (hj : j.v.length = 32) : (Op.equalIn (d + 3) 55 (.agg (icells i).toArray) (.agg (icells j).toArray)).run Tryd.prog w = .ok (imB i j) w := by
  rw [run_equalIn_struct w (d + 2) 55 _ _ fldsI heldI, eqParts_of, show (Tryd.prog.fieldsOf 55).toList.map (fun f => (decide (f.name ≠ "_"), f.type, f.offset)) = flI from flI_is]
  unfold flI imB
  rw [eqParts_cons w _ _ _ 3 0 _ (part3 w (icells i) 0 i.b rfl) (part3 w (icells j) 0 j.b rfl) (run_equalIn_int w (d + 1) 3 .i64 .i64 _ _ Tryd.underlying3),
    eqParts_cons w _ _ _ 52 1 _ (partV w i hi) (partV w j hj) (equalV w d i.v j.v hi hj)]
  have e0 : (eqParts (d + 2) (icells i).toArray (icells j).toArray []).run Tryd.prog w = .ok true w := by rw [eqParts]; exact Sem.run_pure ..
  rw [e0]
  cases (i.b == j.b) <;> cases decide (i.v = j.v) <;> simp
theorem neqI (w : World) (i j : Im) (hi : i.v.length = 32) (hj : j.v.length = 32) : (binOp .neq 55 (.agg (icells i).toArray) (.agg (icells j).toArray)).run Tryd.prog w = .ok (.bool (!imB i j)) w := by
  rw [run_neq_struct, equalI w 9997 i j hi hj]; rfl
theorem yields_neq_is {P : Program} {ops : Array Oper} {S : World → Prop} {o : Oper} {a : Act} (hw : Region.wanted o (yielded ops a.tmps) = true) (ty : TypeId) {x y : Operand} {t2 : TypeId} (ho : o.op = .binOp .neq ty x y t2) {xs ys : Array Value} {v : Value} (hx : a.eval x = .agg xs) (hy : a.eval y = .agg ys) (hg : P.eqGuardType P.depth ty = false) (hrun : ∀ w, (binOp .neq ty (.agg xs) (.agg ys)).run P w = .ok v w) : YieldsIf P ops S o v a :=
  .inl ⟨hw, fun w _ => by unfold execOp; simp only [ho, hx, hy, Sem.run_bind, run_eqGuard_agg w .neq ty x y xs ys hg, hrun w, Result.andThen_ok, Sem.run_pure]⟩
theorem yields_eql_is {P : Program} {ops : Array Oper} {S : World → Prop} {o : Oper} {a : Act} (hw : Region.wanted o (yielded ops a.tmps) = true) (ty : TypeId) {x y : Operand} {t2 : TypeId} (ho : o.op = .binOp .eql ty x y t2) {xs ys : Array Value} {v : Value} (hx : a.eval x = .agg xs) (hy : a.eval y = .agg ys) (hg : P.eqGuardType P.depth ty = false) (hrun : ∀ w, (binOp .eql ty (.agg xs) (.agg ys)).run P w = .ok v w) : YieldsIf P ops S o v a :=
  .inl ⟨hw, fun w _ => by unfold execOp; simp only [ho, hx, hy, Sem.run_bind, run_eqGuard_agg w .eql ty x y xs ys hg, hrun w, Result.andThen_ok, Sem.run_pure]⟩
theorem results_lat1 {fn : Func} {p : Tmp} {ty : TypeId} (h : fn.results = #[.cell p ty]) (tmps : Array Value) (w : World) (g : Nat) (t : TypeId) (cs : List Value) (d : TypeDesc)
    (hp : tmps.getD p undef = .pointer (some ⟨g, 0, none⟩)) (hg : LAt t w g cs) (hu : Tryd.prog.underlying ty = some d) (hd : d.isRow = true) (hi : (Tryd.prog.info? ty).map (·.size) = some cs.length) :
    (results fn tmps).run Tryd.prog w = .ok (.agg cs.toArray) w := results_cell1 h tmps w g t cs d hp hg hu hd hi
theorem MIn.grown {w w' : World} {g n : Nat} {l : List Im} {row : Option Nat} (h : MIn w (some ⟨g, 0, none⟩) n l) (hg : w.grownBy w' row) (hne : row ≠ some g) : MIn w' (some ⟨g, 0, none⟩) n l := by
  refine ⟨h.len, h.wf, fun h0 => ?_⟩
  obtain ⟨b, o, e, hr⟩ := h.cells h0
  cases e
  exact ⟨g, 0, rfl, range_block hr (hg.block g (range_lt hr (by rw [IC_len h.wf, h.len]; omega)) fun e' => hne e'.symm)⟩
/-- from the place k on -/
def dropA (q : Option Addr) (k c : Nat) : Option Addr := if c = k then q else q.map (·.add (k * 33))
theorem MIn.drop {w : World} {q : Option Addr} {n : Nat} {l : List Im} (h : MIn w q n l) {k c : Nat} (hk : k ≤ n) (hc : n ≤ c) : MIn w (dropA q k c) (n - k) (l.drop k) := by
  refine ⟨by rw [List.length_drop, h.len], fun x hx => h.wf x (List.mem_of_mem_drop hx), fun h0 => ?_⟩
  obtain ⟨b, o, e, hr⟩ := h.cells (by omega)
  subst e
  refine ⟨b, o + k * 33, by unfold dropA; rw [if_neg (by omega), Option.map_some, Addr.add_mid], fun j v hv => ?_⟩
  have e2 : IC l = IC (l.take k) ++ IC (l.drop k) := by rw [← IC_append, List.take_append_drop]
  have el : (IC (l.take k)).length = k * 33 := by rw [IC_len fun x hx => h.wf x (List.mem_of_mem_take hx), List.length_take, h.len, Nat.min_eq_left hk]
  have := hr (k * 33 + j) v (by rw [e2, List.getElem?_append_right (by omega), el, Nat.add_sub_cancel_left]; exact hv)
  rw [Nat.add_assoc]; exact this
theorem run_to (w : World) (q : Option Addr) (n c k : Nat) (hk : k ≤ c) : (Instr.sliceAt 45 (.slice q n c) none (some (.int .i64 (k : Int))) none).run Tryd.prog w = .ok (.slice q k c) w := by
  obtain ⟨i0, hi, hz0, hz1, hz2⟩ := info_parts infoI
  have he : Program.elem Tryd.prog 45 = 55 := by kernel_rfl
  have hu : Tryd.prog.underlying 45 = some (.slice (Program.elem Tryd.prog 45)) := by rw [he]; exact Tryd.underlying45
  rw [run_sliceAt_slice w 45 _ _ _ _ hu, run_slice_h w 45 q n c hu .i64 (k : Int) (by omega) (by omega)]
  have e : (sizeOf (Program.elem Tryd.prog 45)).run Tryd.prog w = .ok 33 w := by
    rw [he]
    simp [sizeOf, typeInfo, hi, hz1]
  rw [e]
  simp only [Result.andThen_ok, sliced, Int.toNat_natCast, Nat.zero_mul, Nat.sub_zero]
  cases q with
  | none => simp
  | some a => simp [Addr.add]
theorem run_from (w : World) (q : Option Addr) (n c k : Nat) (hk : k ≤ n) : (Instr.sliceAt 45 (.slice q n c) (some (.int .i64 (k : Int))) none none).run Tryd.prog w = .ok (.slice (dropA q k c) (n - k) (c - k)) w := by
  obtain ⟨i0, hi, hz0, hz1, hz2⟩ := info_parts infoI
  have he : Program.elem Tryd.prog 45 = 55 := by kernel_rfl
  have hu : Tryd.prog.underlying 45 = some (.slice (Program.elem Tryd.prog 45)) := by rw [he]; exact Tryd.underlying45
  rw [run_sliceAt_slice w 45 _ _ _ _ hu, run_slice_l w 45 q n c hu .i64 (k : Int) (by omega) (by omega)]
  have e : (sizeOf (Program.elem Tryd.prog 45)).run Tryd.prog w = .ok 33 w := by
    rw [he]
    simp [sizeOf, typeInfo, hi, hz1]
  rw [e]
  simp only [Result.andThen_ok, sliced, Int.toNat_natCast]
  rfl
theorem yields_slice_is {P : Program} {ops : Array Oper} {S : World → Prop} {o : Oper} {a : Act} (hw : Region.wanted o (yielded ops a.tmps) = true) (ty : TypeId) {x : Operand} {lo hi mx : Option Operand} (ho : o.op = .slice ty x lo hi mx) {vx v : Value} {vl vh vm : Option Value} (hx : a.eval x = vx) (hl : lo.map a.eval = vl) (hh : hi.map a.eval = vh) (hm : mx.map a.eval = vm) (hrun : ∀ w, (Instr.sliceAt ty vx vl vh vm).run P w = .ok v w) : YieldsIf P ops S o v a :=
  .inl ⟨hw, fun w _ => by unfold execOp; simp only [ho, hx, hl, hh, hm, Sem.run_bind, hrun w, Result.andThen_ok, Sem.run_pure]⟩
/-- images appended onto a row of ours -/
theorem app_ims {W : World} {B : Nat} {v : Value} {l0 l : List Im} {q : Option Addr} {m c : Nat} (h0 : IOwn W B v l0) (hw0 : ImsWf l0) (h : MIn W q m l) (hm : l0.length + m ≤ 3000000) (hB : B ≤ W.heap.size) : ∃ q' c' W', (Builtin.append_ #[45, 45] 45 #[v, .slice q m c]).run Tryd.prog W = .ok (.slice q' (l0 ++ l).length c') W' ∧ IOwn W' B (.slice q' (l0 ++ l).length c') (l0 ++ l) ∧ W.grownBy W' v.ownBlock ∧ ((Value.slice q' (l0 ++ l).length c').ownBlock = v.ownBlock ∨ (Value.slice q' (l0 ++ l).length c').ownBlock = some W.heap.size) := by
  obtain ⟨i0, hi0, hz0, hz1, hz2⟩ := info_parts infoI
  have h65 : (4000000 : Nat) ≤ maxLen := by decide
  have hwf : ImsWf (l0 ++ l) := fun x hx => (List.mem_append.1 hx).elim (hw0 x) (h.wf x)
  have go : ∀ (ad : Addr), q = some ad → ∃ q' c' W', (Builtin.append_ #[45, 45] 45 #[v, .slice q m c]).run Tryd.prog W = .ok (.slice q' (l0 ++ l).length c') W' ∧ IOwn W' B (.slice q' (l0 ++ l).length c') (l0 ++ l) ∧ W.grownBy W' v.ownBlock ∧ ((Value.slice q' (l0 ++ l).length c').ownBlock = v.ownBlock ∨ (Value.slice q' (l0 ++ l).length c').ownBlock = some W.heap.size) := by
    rintro ad rfl
    obtain ⟨v', W', hrun, hown', hgrow, -, hat⟩ := run_append_own_at (P := Tryd.prog) W B 45 45 55 i0 _ 33 40 Tryd.underlying45 hi0 hz0 hz1 hz2 rfl (by decide) v l0.length (IC l0) h0 ad m c (IC l) (by rw [IC_len h.wf, h.len]) (fun j u hu => by
      by_cases hp : 0 < m
      · obtain ⟨b', o', e, hr⟩ := h.cells hp
        cases e
        rw [Addr.add_mid]
        exact hr j u hu
      · have : l = [] := List.length_eq_zero_iff.1 (by rw [h.len]; omega)
        rw [this] at hu; simp [IC] at hu) (IC_ones l) (by omega) (by omega) hB
    have hown2 : IOwn W' B v' (l0 ++ l) := by
      rw [IOwn, List.length_append, h.len, IC_append]; exact hown'
    obtain ⟨q', c', rfl, -, -, -⟩ := IOwn.in hown2 hwf
    exact ⟨q', c', W', hrun, hown2, hgrow, hat⟩
  by_cases hp : 0 < m
  · obtain ⟨b, o, e, -⟩ := h.cells hp
    exact go _ e
  · have m0 : m = 0 := by omega
    have e0 : l = [] := List.length_eq_zero_iff.1 (by rw [h.len, m0])
    cases q with
    | none =>
      subst m0; subst e0
      have hr : (Builtin.append_ #[45, 45] 45 #[v, .slice none 0 c]).run Tryd.prog W = .ok v W := by
        rcases h0.2 with ⟨rfl, _⟩ | ⟨g, cap, cur, rfl, _, _, hnc, _⟩
        · simp [Builtin.append_, run_underlying Tryd.underlying45, sizeOf, typeInfo, hi0, Builtin.lenOf, Builtin.firstCells]
        · simp [Builtin.append_, run_underlying Tryd.underlying45, sizeOf, typeInfo, hi0, Builtin.lenOf, Builtin.firstCells, hnc, storeCells]
      obtain ⟨q', c', rfl, -, -, -⟩ := IOwn.in h0 hw0
      rw [List.append_nil]
      exact ⟨q', c', W, hr, h0, ⟨rfl, rfl, rfl, Nat.le_refl _, fun _ _ _ => rfl⟩, .inl rfl⟩
    | some ad => exact go ad rfl
theorem lat_c0 {t : TypeId} {w : World} {g : Nat} {x : Im} (h : LAt t w g (icells x)) : w.cell? ⟨g, 0, none⟩ = some (.int .i64 x.b) := LAt.cell h 0
/-- the first of a row of ours -/
theorem IOwn.pre {W : World} {B g n c : Nat} {l : List Im} (h : IOwn W B (.slice (some ⟨g, 0, none⟩) n c) l) (hw : ImsWf l) (k : Nat) (hk : k ≤ l.length) : IOwn W B (.slice (some ⟨g, 0, none⟩) k c) (l.take k) := by
  have hlk : (l.take k).length = k := by rw [List.length_take]; omega
  have hwk : ImsWf (l.take k) := fun x hx => hw x (List.mem_of_mem_take hx)
  rcases h.2 with ⟨e, _⟩ | ⟨g', cap, cur, e, h0, hg, h1, h2, h3, h4⟩
  · cases e
  · cases e
    refine ⟨by rw [IC_len hwk], .inr ⟨g, c, cur, by rw [hlk], h0, hg, by omega, h2, h3, ?_⟩⟩
    rw [hlk]
    have e2 : IC l = IC (l.take k) ++ IC (l.drop k) := by rw [← IC_append, List.take_append_drop]
    have el : (IC (l.take k)).length = k * 33 := by rw [IC_len hwk, hlk]
    have : cur.toList.take (k * 33) = (cur.toList.take (l.length * 33)).take (k * 33) := by rw [List.take_take, Nat.min_eq_left (Nat.mul_le_mul_right _ hk)]
    rw [this, h4, e2, ← el, List.take_left]
/-- one image written over -/
theorem IOwn.put {W : World} {B g n c : Nat} {l : List Im} (h : IOwn W B (.slice (some ⟨g, 0, none⟩) n c) l) (hw : ImsWf l) (i : Im) (hi : i.Wf) (k : Nat) (hk : k < l.length) :
    ∃ W', (Instr.storeAt 55 (.pointer (some ⟨g, k * 33, none⟩)) (.agg (icells i).toArray)).run Tryd.prog W = .ok () W' ∧ IOwn W' B (.slice (some ⟨g, 0, none⟩) n c) (l.take k ++ [i] ++ l.drop (k + 1)) ∧ W.grownBy W' (some g) := by
  obtain ⟨i0, hi0, hz0, hz1, hz2⟩ := info_parts infoI
  have hwt : ImsWf (l.take k) := fun x hx => hw x (List.mem_of_mem_take hx)
  have hwd : ImsWf (l.drop (k + 1)) := fun x hx => hw x (List.mem_of_mem_drop hx)
  have hll : (l.take k ++ [i] ++ l.drop (k + 1)).length = l.length := by simp; omega
  rcases h.2 with ⟨e, _⟩ | ⟨g', cap, cur, e, h0, hg, h1, h2, h3, h4⟩
  · cases e
  · cases e
    have hsz : cur.size = c * 33 := h3
    have hst := run_storeCells_at Tryd.prog g (k * 33) 55 (icells i) 0 cur W hg (by rw [icells_len hi.len]; omega) (icells_ones i)
    rw [Nat.add_zero, icells_len hi.len] at hst
    have hr : (Instr.storeAt 55 (.pointer (some ⟨g, k * 33, none⟩)) (.agg (icells i).toArray)).run Tryd.prog W = .ok () (W.setRow g (cur.toList.take (k * 33) ++ icells i ++ cur.toList.drop (k * 33 + 33)).toArray) := by
      simp [Instr.storeAt, Instr.sureAddr, storeVar, sizeOf, typeInfo, hi0, hz1, Value.cells, icells_len hi.len, hst]
    refine ⟨_, hr, ⟨?_, .inr ⟨g, c, _, by rw [hll], h0, setRow_heap W g cur _ 55 _ hg, by rw [hll]; exact h1, h2, ?_, ?_⟩⟩, ⟨rfl, rfl, rfl, by simp, fun k _ hk => setRow_other W g k _ (fun e => hk (by simp [e]))⟩⟩
    · rw [hll, IC_len, hll]
      intro x hx
      rcases List.mem_append.1 hx with hx | hx
      · rcases List.mem_append.1 hx with hx | hx
        · exact hwt x hx
        · rw [List.mem_singleton.1 hx]; exact hi
      · exact hwd x hx
    · simp only [List.size_toArray, List.length_append, List.length_take, List.length_drop, Array.length_toList, icells_len hi.len]
      omega
    · have ec : cur.toList = IC l ++ cur.toList.drop (l.length * 33) := by rw [← h4, List.take_append_drop]
      have e2 : IC l = IC (l.take k) ++ (icells l[k] ++ IC (l.drop (k + 1))) := by
        have e0 : l = l.take k ++ ([l[k]] ++ l.drop (k + 1)) := by
          rw [List.singleton_append, ← List.drop_eq_getElem_cons hk, List.take_append_drop]
        have e1 : IC l = IC (l.take k ++ ([l[k]] ++ l.drop (k + 1))) := congrArg IC e0
        rw [e1, IC_append, IC_append, show IC [l[k]] = icells l[k] by simp [IC]]
      have el : (IC (l.take k)).length = k * 33 := by rw [IC_len hwt, List.length_take, Nat.min_eq_left (by omega)]
      have ex : (icells l[k]).length = 33 := icells_len (hw _ (List.getElem_mem hk)).len
      have t1 : cur.toList.take (k * 33) = IC (l.take k) := by
        have e5 : cur.toList = IC (l.take k) ++ ((icells l[k] ++ IC (l.drop (k + 1))) ++ cur.toList.drop (l.length * 33)) := by rw [← List.append_assoc, ← e2]; exact ec
        rw [← el, e5, List.take_left]
      have t2 : cur.toList.drop (k * 33 + 33) = IC (l.drop (k + 1)) ++ cur.toList.drop (l.length * 33) := by
        have e5 : cur.toList = (IC (l.take k) ++ icells l[k]) ++ (IC (l.drop (k + 1)) ++ cur.toList.drop (l.length * 33)) := by
          rw [← List.append_assoc, List.append_assoc (IC (l.take k)), ← e2]; exact ec
        generalize cur.toList.drop (l.length * 33) = rest at *
        rw [e5, show k * 33 + 33 = (IC (l.take k) ++ icells l[k]).length by rw [List.length_append, el, ex], List.drop_left]
      have e3 : IC (l.take k ++ [i] ++ l.drop (k + 1)) = IC (l.take k) ++ icells i ++ IC (l.drop (k + 1)) := by rw [IC_append, IC_append]; simp [IC]
      have e4 : (IC (l.take k) ++ icells i ++ IC (l.drop (k + 1))).length = l.length * 33 := by
        have hd : (l.drop (k + 1)).length = l.length - (k + 1) := List.length_drop
        rw [List.length_append, List.length_append, el, icells_len hi.len, IC_len hwd, hd]; omega
      rw [hll, t1, t2, e3]
      show List.take _ (IC (l.take k) ++ icells i ++ (IC (l.drop (k + 1)) ++ _)) = _
      rw [← List.append_assoc, ← e4, List.take_left]
/-- some of nothing appended -/
theorem app_zeros {W : World} {B : Nat} {v : Value} {l : List Im} (h : IOwn W B v l) (hm : l.length ≤ 3000000) (kz : Nat) (hk0 : 0 < kz) (hk1 : kz ≤ 100) : ∃ v' W', (Builtin.append_ #[45, 3] 45 #[v, .int .i64 (kz : Int)]).run Tryd.prog W = .ok v' W' ∧ W.grownBy W' v.ownBlock := by
  obtain ⟨i0, hi0, hz0, hz1, hz2⟩ := info_parts infoI
  have hfr : ∀ o, W.grownBy (W.drew.alloc o) v.ownBlock := fun o => by
    have b2 : Below W.heap.size W W.drew := below_drawn 1
    have g := grown_of_below (below_then b2 (below_alloc W.drew o))
    exact ⟨g.os, g.tape, g.output, g.size, fun k hk _ => g.block k hk (by simp)⟩
  rcases h.2 with ⟨rfl, e0⟩ | ⟨g, cap, cur, rfl, hb, hg, h1, h2, h3, h4⟩
  · have hr := Lib.run_append_nil_zeros (P := Tryd.prog) W 45 3 45 55 i0 _ .i64 .i64 Tryd.underlying45 Tryd.underlying3 hi0 hz0 kz hk0 (by omega) (by omega) (by rw [hz2]; omega)
    exact ⟨_, _, hr, hfr _⟩
  · by_cases room : l.length + kz ≤ cap
    · have hzl : (Builtin.zeroCells (icells im0).toArray kz).toList.length = kz * 33 := by simp [Builtin.zeroCells, icells_len (show im0.v.length = 32 from zs_len 32)]
      have hzo : ∀ u ∈ (Builtin.zeroCells (icells im0).toArray kz).toList, u.oneCell' = true := by
        intro u hu
        simp only [Builtin.zeroCells, Array.toList_map, List.mem_map] at hu
        obtain ⟨j, -, rfl⟩ := hu
        have hj : j % (icells im0).toArray.size < (icells im0).toArray.size := Nat.mod_lt _ (by simp [icells])
        rw [getElem!_pos (icells im0).toArray _ hj]
        exact icells_ones im0 _ (by rw [List.getElem_toArray]; exact List.getElem_mem _)
      have hst := run_storeCells_at Tryd.prog g (l.length * 33) 55 (Builtin.zeroCells (icells im0).toArray kz).toList 0 cur W hg (by rw [hzl]; omega) hzo
      have hgz : ∀ cs, W.grownBy (W.setRow g cs) (some g) := fun cs => ⟨rfl, rfl, rfl, by simp, fun k _ hk => setRow_other W g k _ (fun e => hk (by simp [e]))⟩
      have hgz' := hgz (List.take (l.length * 33 + 0) cur.toList ++ (Builtin.zeroCells (icells im0).toArray kz).toList ++ List.drop (l.length * 33 + 0 + (Builtin.zeroCells (icells im0).toArray kz).toList.length) cur.toList).toArray
      generalize W.setRow g (List.take (l.length * 33 + 0) cur.toList ++ (Builtin.zeroCells (icells im0).toArray kz).toList ++ List.drop (l.length * 33 + 0 + (Builtin.zeroCells (icells im0).toArray kz).toList.length) cur.toList).toArray = Wz at hst hgz'
      have hw : IntKind.i64.wrap (kz : Int) = kz := by rw [IntKind.wrap_i64]; omega
      have hneg : ¬ ((kz : Int) < 0) := by omega
      have h48i : ¬ (281474976710656 < (kz : Int) * 40) := by omega
      have hr : (Builtin.append_ #[45, 3] 45 #[.slice (some ⟨g, 0, none⟩) l.length cap, .int .i64 (kz : Int)]).run Tryd.prog W = .ok (.slice (some ⟨g, 0, none⟩) (l.length + kz) cap) Wz := by
        simp [Builtin.append_, run_underlying Tryd.underlying45, run_underlying Tryd.underlying3, sizeOf, typeInfo, zeroValue, hi0, hz0, hz1, hz2, asInt, asIntOf, hw, hneg, h48i, room, Value.cells, Addr.add_mid, hst]
        omega
      exact ⟨_, Wz, hr, hgz'⟩
    · have holds : ∀ j u, (IC l)[j]? = some u → W.drew.cell? ((⟨g, 0, none⟩ : Addr).add j) = some u := h.cells (g := g) rfl
      have hf := run_firstCells_some (P := Tryd.prog) W.drew i0.size l.length ⟨g, 0, none⟩ l.length cap (IC l) (by rw [hz1]; exact h.1) holds
      have hr := Lib.run_append_grow_zeros (P := Tryd.prog) W 45 3 45 55 i0 _ .i64 .i64 Tryd.underlying45 Tryd.underlying3 hi0 hz0 (some ⟨g, 0, none⟩) l.length cap (IC l) hf kz hk0 (by omega) (by omega) (by omega) (by rw [hz2]; omega) (growslice_fits (by omega) (by rw [hz2]; omega))
      exact ⟨_, _, hr, hfr _⟩
end Go.Proofs.YthcpnfelnonhnaaDoor
