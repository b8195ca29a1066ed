/-
  What RecordNames needs beside: its records, the literal of those that may not be.
-/
import Derived.Test.YtndildimnanlpaaDoorFa
namespace Go.Proofs.YtndildimnanlpaaDoor
open Go.RowKit

/-- 32 times 255 -/
def v255 : List Int := List.replicate 32 255
theorem v255_len : v255.length = 32 := by simp [v255]
theorem v255_bytes : Bytes v255 := fun x hx => by rw [List.eq_of_mem_replicate hx]; omega
theorem v255_at (j : Nat) (h : j < v255.length) : v255[j] = 255 := List.getElem_replicate ..
/-- {Image, 0, Block 63, Value all 255} -/
def rim : Rec := ⟨1, 0, 63, v255, 0⟩
theorem rim_wf : rim.Wf := ⟨by decide, by decide, by decide, by decide, by decide, by decide, by decide, by decide, v255_len, v255_bytes⟩
theorem rim_may : may rim = true := by decide
theorem rim_head : head rim = [87, 1, 0, 0, 0, 0, 0, 0, 0, 0, 0, 0, 63, 0, 0, 0] ++ v255 := by decide
theorem rim_4 : (encS rim).getD 4 0 = 0 := (enc_at rim v255_len 4 (by omega)).trans (by rw [rim_head]; decide)
theorem rim_12 : (encS rim).getD 12 0 = 63 := (enc_at rim v255_len 12 (by omega)).trans (by rw [rim_head]; decide)
theorem rim_13 : (encS rim).getD 13 0 = 0 := (enc_at rim v255_len 13 (by omega)).trans (by rw [rim_head]; decide)
theorem rim_16 : (encS rim).getD 16 0 = 255 := (enc_at rim v255_len 16 (by omega)).trans (by rw [rim_head]; decide)
theorem rim_47 : (encS rim).getD 47 0 = 255 := (enc_at rim v255_len 47 (by omega)).trans (by rw [rim_head]; decide)
theorem rim_48 : (encS rim).getD 48 0 = 0 := by
  unfold encS body
  rw [List.append_assoc, List.getD, List.getElem?_append_right (by rw [head_len rim v255_len]; omega), head_len rim v255_len]
  rfl
theorem enc_im (w : World) (ht : Tab w) : Calls Tryd.prog 9 #[.agg (rcells rim).toArray] w fun e w' => ∃ b o c, e = .returned (.tuple #[.slice (some ⟨b, o, none⟩) 64 c, .int .i64 0]) ∧ Made w w' (some ⟨b, o, none⟩) 64 c (encS rim) := by
  refine (encode_good rim rim_wf rim_may w ht).mono ?_
  rintro e w' ⟨p, c, rfl, m⟩
  obtain ⟨b, o, rfl, -⟩ := m.read.cells (by omega)
  exact ⟨b, o, c, rfl, m⟩

/-- records that may not be -/
def bads : List Rec := [⟨0, 0, 0, zs 32, 0⟩, ⟨3, 0, 0, zs 32, 0⟩, ⟨2, 0, 0, zs 32, 17⟩, ⟨2, 0, 1, zs 32, 0⟩, ⟨1, 0, 0, zs 32, 1⟩, ⟨1, 0, 64, zs 32, 0⟩, ⟨1, 0, -1, zs 32, 0⟩, ⟨2, 4611686018427387905, 0, zs 32, 0⟩, ⟨2, 0, 0, v255, 0⟩]
theorem bads_no : ∀ i (h : i < bads.length), ¬ may bads[i] = true := by
  have : bads.all (fun r => !may r) = true := by decide
  intro i h hm
  have := List.all_eq_true.1 this bads[i] (List.getElem_mem h)
  rw [hm] at this
  cases this
theorem bads_len : ∀ i (h : i < bads.length), bads[i].val.length = 32 := by
  have : bads.all (fun r => r.val.length == 32) = true := by decide
  intro i h
  simpa using List.all_eq_true.1 this bads[i] (List.getElem_mem h)
def bcells (rs : List Rec) : List Value := (rs.map rcells).flatten
theorem bcells_len : ∀ (rs : List Rec), (∀ r ∈ rs, r.val.length = 32) → (bcells rs).length = rs.length * 36
  | [], _ => rfl
  | r :: rs, h => by
    have ih := bcells_len rs (fun s hs => h s (List.mem_cons_of_mem _ hs))
    unfold bcells at *
    rw [List.map_cons, List.flatten_cons, List.length_append, rcells_len r (h r List.mem_cons_self), ih, List.length_cons]
    omega
theorem bcells_at : ∀ (rs : List Rec), (∀ r ∈ rs, r.val.length = 32) → ∀ i (h : i < rs.length) j v, (rcells rs[i])[j]? = some v → (bcells rs)[i * 36 + j]? = some v
  | [], _, _, h, _, _, _ => absurd h (Nat.not_lt_zero _)
  | r :: rs, hr, 0, _, j, v, hv => by
    have hv' : (rcells r)[j]? = some v := hv
    have hj := (List.getElem?_eq_some_iff.1 hv').1
    unfold bcells
    rw [List.map_cons, List.flatten_cons, Nat.zero_mul, Nat.zero_add, List.getElem?_append_left hj]
    exact hv'
  | r :: rs, hr, i + 1, h, j, v, hv => by
    have ih := bcells_at rs (fun s hs => hr s (List.mem_cons_of_mem _ hs)) i (by simpa using h) j v hv
    unfold bcells at *
    rw [List.map_cons, List.flatten_cons, List.getElem?_append_right (by rw [rcells_len r (hr r List.mem_cons_self)]; omega), rcells_len r (hr r List.mem_cons_self), show (i + 1) * 36 + j - 36 = i * 36 + j by omega]
    exact ih
/-- the parts of a literal of records -/
def bparts : Nat → List Rec → List (Nat × Value)
  | _, [] => []
  | k, r :: rs => (k, .agg (rcells r).toArray) :: bparts (k + 1) rs
theorem fill_recs : ∀ (rs : List Rec), (∀ r ∈ rs, r.val.length = 32) → ∀ (k : Nat) (don tl : List Value), don.length = k * 36 → tl.length = rs.length * 36 →
    Instr.fill (fun i => some (i * 36, 36)) (don ++ tl).toArray (bparts k rs) = some (don ++ bcells rs).toArray
  | [], _, _, don, tl, _, ht => by
    obtain rfl : tl = [] := List.eq_nil_of_length_eq_zero ht
    rfl
  | r :: rs, hr, k, don, tl, hd, ht => by
    have hl := rcells_len r (hr r List.mem_cons_self)
    have htl : tl.length = rs.length * 36 + 36 := by rw [ht, List.length_cons]; omega
    have a0 := part_fill (k * 36) (rcells r) (don ++ tl) (by rw [List.length_append, hd, hl]; omega)
    have a1 : (rcells r).toArray.zipIdx.foldl (fun cs x => match x with | (c, j) => cs.setIfInBounds (k * 36 + j) c) (don ++ tl).toArray = ((don ++ tl).take (k * 36) ++ rcells r ++ (don ++ tl).drop (k * 36 + (rcells r).length)).toArray := a0
    have e1 : (don ++ tl).take (k * 36) = don := by rw [List.take_append_of_le_length (by omega), List.take_of_length_le (by omega)]
    have e2 : (don ++ tl).drop (k * 36 + (rcells r).length) = tl.drop 36 := by rw [List.drop_append, List.drop_of_length_le (by omega), List.nil_append, hd, hl]; congr 1; omega
    have ih := fill_recs rs (fun s hs => hr s (List.mem_cons_of_mem _ hs)) (k + 1) (don ++ rcells r) (tl.drop 36) (by rw [List.length_append, hd, hl]; omega) (by rw [List.length_drop, htl]; omega)
    simp only [bparts, Instr.fill, Value.cells, List.size_toArray]
    rw [if_neg (by simp [hl, hd, htl]), a1, e1, e2, ih]
    simp [bcells]
theorem info31 : (Tryd.prog.info? 31).map (fun i => (i.zero, i.size, i.bytes)) = some (some (.agg (rcells rec0).toArray), 36, 64) := by kernel_rfl
theorem run_bads (w : World) : (Instr.buildSlice 32 9 (bparts 0 bads).toArray).run Tryd.prog w = .ok (.slice (some ⟨w.heap.size, 0, none⟩) 9 9) (w.alloc (.cells (bcells bads).toArray 31)) := by
  obtain ⟨i0, hi, hz0, hz1, hz2⟩ := info_parts info31
  refine run_buildSlice w 32 31 9 _ _ i0 _ Tryd.underlying32 hi hz0 (by rw [hz1]; decide) (by rw [hz1]; decide) ?_
  rw [hz1]
  have hA : ∀ A : Array Value, A.size = 324 → Instr.fill (fun i => some (i * 36, 36)) A (bparts 0 bads) = some (bcells bads).toArray := by
    intro A hA
    have := fill_recs bads (fun r hr => by obtain ⟨i, hi, rfl⟩ := List.getElem_of_mem hr; exact bads_len i hi) 0 [] A.toList rfl (by simp [hA, bads])
    simpa using this
  exact hA _ (by simp)
theorem wpList_lit_is {P : Program} {ops : Array Oper} {rest : List Oper} {o : Oper} {a : Act} {w w' : World} {Q : Exit → Act → World → Prop} (hgd : Region.wanted o (yielded ops a.tmps) = true) (ty : TypeId) (n : Nat) {ps : Array (Nat × Operand)} (ho : o.op = .buildSlice ty n ps) {vs : List (Nat × Value)} {v : Value} (hx : ps.toList.map (fun (i, x) => (i, a.eval x)) = vs) (hrun : (Instr.buildSlice ty n vs.toArray).run P w = .ok v w')
    (h : wpList P ops Q rest (a.put o.dst v) w') : wpList P ops Q (o :: rest) a w :=
  wpList_val hgd (by unfold execOp; simp only [ho]; rw [show ps.map (fun (i, x) => (i, a.eval x)) = vs.toArray by rw [← hx, ← Array.toList_map]]; simp only [Sem.run_bind, hrun, Result.andThen_ok, Sem.run_pure]) h
/-- the goal is a list of operations: a law is tried there alone -/
theorem at_list {P : Program} {ops : Array Oper} {rest : List Oper} {o : Oper} {a : Act} {w : World} {Q : Exit → Act → World → Prop} (h : wpList P ops Q (o :: rest) a w) : wpList P ops Q (o :: rest) a w := h
/-- where the literal lies -/
def LAt (w : World) (g : Nat) : Prop := w.heap[g]? = some (.cells (bcells bads).toArray 31 (0, 0))
theorem LAt.later {w w' : World} {g : Nat} (h : LAt w g) (hb : Below w.heap.size w w') : LAt w' g := (hb.block g (Array.getElem?_eq_some_iff.1 h).1).trans h
theorem LAt.range {w : World} {g : Nat} (h : LAt w g) (i : Nat) (hi : i < bads.length) : w.rangeAt g (i * 36) (rcells bads[i]) := fun j v hv => by
  rw [cell_of_row w g (i * 36 + j) _ 31 (0, 0) h, List.getElem?_toArray]
  exact bcells_at bads (fun r hr => by obtain ⟨i, hi, rfl⟩ := List.getElem_of_mem hr; exact bads_len i hi) i hi j v hv
theorem LAt.load {w : World} {g : Nat} (h : LAt w g) (i : Nat) (hi : i < bads.length) : (Instr.loadAt 31 (.pointer (some ⟨g, i * 36, none⟩))).run Tryd.prog w = .ok (.agg (rcells bads[i]).toArray) w :=
  run_loadAt_mid w g (i * 36) 31 _ _ (h.range i hi) Tryd.underlying31 rfl (by rw [size31, rcells_len _ (bads_len i hi)])
/-- a value of its own -/
def VAt (w : World) (g : Nat) (v : List Int) : Prop := w.heap[g]? = some (.cells (U8 v).toArray 24 (0, 0))
theorem VAt.lt {w : World} {g : Nat} {v : List Int} (h : VAt w g v) : g < w.heap.size := (Array.getElem?_eq_some_iff.1 h).1
theorem VAt.later {w w' : World} {g : Nat} {v : List Int} (h : VAt w g v) (hb : Below w.heap.size w w') : VAt w' g v := (hb.block g h.lt).trans h
theorem VAt.cell {w : World} {g : Nat} {v : List Int} (h : VAt w g v) (j : Nat) : w.cell? ⟨g, j, none⟩ = (U8 v)[j]? := by
  rw [cell_of_row w g j _ 24 (0, 0) h]; simp
theorem VAt.set {w : World} {g j : Nat} {v : List Int} (h : VAt w g v) (x : Int) : VAt (w.setCell ⟨g, j, none⟩ (.int .u8 x)) g (v.set j x) := by
  have := heap_setCell_same w g j _ 24 (.int .u8 x) h
  unfold VAt
  rw [this, List.setIfInBounds_toArray]
  simp [U8, List.map_set]
theorem VAt.load {w : World} {g : Nat} {v : List Int} (h : VAt w g v) (hv : v.length = 32) : (Instr.loadAt 24 (.pointer (some ⟨g, 0, none⟩))).run Tryd.prog w = .ok (.agg (U8 v).toArray) w :=
  run_loadAt_mid w g 0 24 (U8 v) _ (fun j u hu => by rw [Nat.zero_add, h.cell j]; exact hu) Tryd.underlying24 rfl (by rw [size24, U8_length, hv])

end Go.Proofs.YtndildimnanlpaaDoor
