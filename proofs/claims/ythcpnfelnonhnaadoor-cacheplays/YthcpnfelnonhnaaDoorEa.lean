/-
  How entries lie in memory; what the operations on them do.
-/
import Derived.Test.YthcpnfelnonhnaaDoorCm
namespace Go.Proofs.YthcpnfelnonhnaaDoor
open Go.RowKit

/-- an entry's cells; those of entries one behind the other -/
def ecells (i : En) : List Value := .int .i64 i.b :: (U8 i.v ++ [.int .u64 i.p])
def en0 : En := ⟨0, zs 32, 0⟩
theorem ecells_len {i : En} (h : i.v.length = 32) : (ecells i).length = 34 := by simp [ecells, h]
theorem ecells_ones (i : En) : ∀ v ∈ ecells i, v.oneCell' = true := fun v hv => by
  rcases List.mem_cons.1 hv with rfl | hv
  · rfl
  · rcases List.mem_append.1 hv with hv | hv
    · exact ones_u8 _ v hv
    · rw [List.mem_singleton.1 hv]; rfl
theorem ecells_p {i : En} (h : i.v.length = 32) : (ecells i)[33]? = some (.int .u64 i.p) := by
  rw [ecells, List.getElem?_cons_succ, List.getElem?_append_right (by simp [h])]; simp [h]
theorem ecells_v {i : En} (j : Nat) (v : Value) (h : (U8 i.v)[j]? = some v) : (ecells i)[j + 1]? = some v := by
  rw [ecells, List.getElem?_cons_succ, List.getElem?_append_left (List.getElem?_eq_some_iff.1 h).1]; exact h
def plE : List (Nat × Nat) := [(0, 1), (1, 32), (33, 1)]
def flE : List (Bool × TypeId × Nat) := [(true, 3, 0), (true, 52, 1), (true, 44, 33)]
/-- a type of entries, and of lists of them -/
structure ET (ts te : TypeId) : Prop where
  ut : Tryd.prog.underlying ts = some (.slice te)
  un : Tryd.prog.underlying te = some (.struct (Tryd.prog.fieldsOf te))
  inf : (Tryd.prog.info? te).map (fun i => (i.zero, i.size, i.bytes)) = some (some (.agg (ecells en0).toArray), 34, 48)
  size : (Tryd.prog.info? te).map (·.size) = some 34
  zero : (Tryd.prog.info? te).bind (·.zero) = some (.agg (ecells en0).toArray)
  places : placesOf Tryd.prog te = some plE
  held : Tryd.prog.stoodInHeld te = false
  eqg : Tryd.prog.eqGuardType Tryd.prog.depth te = false
  fls : fl Tryd.prog te = flE
  el : Program.elem Tryd.prog ts = te
theorem etC : ET 60 57 := ⟨by kernel_rfl, by kernel_rfl, by kernel_rfl, by kernel_rfl, by kernel_rfl, by kernel_rfl, by kernel_rfl, by kernel_rfl, by kernel_rfl, by kernel_rfl⟩
theorem etR : ET 46 75 := ⟨by kernel_rfl, by kernel_rfl, by kernel_rfl, by kernel_rfl, by kernel_rfl, by kernel_rfl, by kernel_rfl, by kernel_rfl, by kernel_rfl, by kernel_rfl⟩
theorem isRowS (fs : Array Field) : (TypeDesc.struct fs).isRow = true := rfl
theorem ecells_all (i : En) : (ecells i).toArray.all (·.oneCell') = true := all_oneCell_toArray (ecells_ones i)
def EC (l : List En) : List Value := (l.map ecells).flatten
theorem EC_nil : EC [] = [] := rfl
theorem EC_snoc (l : List En) (i : En) : EC (l ++ [i]) = EC l ++ ecells i := by simp [EC]
theorem EC_append (l m : List En) : EC (l ++ m) = EC l ++ EC m := by simp [EC]
theorem EC_len {l : List En} (h : EnsWf l) : (EC l).length = l.length * 34 := by
  have := flat_length (m := 34) (l.map ecells) (fun x hx => by
    obtain ⟨i, hi, rfl⟩ := List.mem_map.1 hx
    exact ecells_len (h i hi).len)
  rw [List.length_map] at this
  exact this
theorem EC_at {l : List En} (h : EnsWf l) {k : Nat} {i : En} (hk : l[k]? = some i) (j : Nat) (hj : j < 34) : (EC l)[34 * k + j]? = (ecells i)[j]? := by
  obtain ⟨hk', e⟩ := List.getElem?_eq_some_iff.1 hk
  have := flat_at (m := 34) (l.map ecells) (fun x hx => by
    obtain ⟨i, hi, rfl⟩ := List.mem_map.1 hx
    exact ecells_len (h i hi).len) k (by simpa using hk') j hj
  rw [EC, this]
  simp [e]
theorem EC_ones (l : List En) : ∀ v ∈ EC l, v.oneCell' = true := fun v hv => by
  obtain ⟨c, hc, hv⟩ := List.mem_flatten.1 hv
  obtain ⟨i, _, rfl⟩ := List.mem_map.1 hc
  exact ecells_ones i v hv
/-- images that can be read -/
structure EIn (w : World) (p : Option Addr) (n : Nat) (l : List En) : Prop where
  len : l.length = n
  wf : EnsWf l
  cells : 0 < n → ∃ b o, p = some ⟨b, o, none⟩ ∧ w.rangeAt b o (EC l)
theorem EIn.nil (w : World) (p : Option Addr) : EIn w p 0 [] := ⟨rfl, EnsWf.nil, fun h => absurd h (Nat.lt_irrefl 0)⟩
theorem EIn.later {w w' : World} {p : Option Addr} {n : Nat} {l : List En} (h : EIn w p n l) (hb : Below w.heap.size w w') : EIn w' p n l := by
  refine ⟨h.len, h.wf, fun h0 => ?_⟩
  obtain ⟨b, o, e, hr⟩ := h.cells h0
  exact ⟨b, o, e, range_block hr (hb.block b (range_lt hr (by rw [EC_len h.wf, h.len]; omega)))⟩
theorem EIn.at {w : World} {b o n : Nat} {l : List En} (h : EIn w (some ⟨b, o, none⟩) n l) {k : Nat} {i : En} (hk : l[k]? = some i) : w.rangeAt b (o + k * 34) (ecells i) := fun j v hv => by
  have hk' := (List.getElem?_eq_some_iff.1 hk).1
  obtain ⟨b', o', e, hr⟩ := h.cells (by rw [← h.len]; omega)
  cases e
  have hj : j < 34 := by have := (List.getElem?_eq_some_iff.1 hv).1; rw [ecells_len (h.wf i (List.mem_of_getElem? hk)).len] at this; exact this
  have := hr (34 * k + j) v (by rw [EC_at h.wf hk j hj]; exact hv)
  rw [show o + k * 34 + j = o + (34 * k + j) by omega]; exact this
theorem EIn.c0 {w : World} {b o n : Nat} {l : List En} (h : EIn w (some ⟨b, o, none⟩) n l) {k : Nat} {i : En} (hk : l[k]? = some i) : w.cell? ⟨b, o + k * 34, none⟩ = some (.int .i64 i.b) := h.at hk 0 _ rfl
theorem EIn.take {w : World} {p : Option Addr} {n : Nat} {l : List En} (h : EIn w p n l) (k : Nat) (hk : k ≤ n) : EIn w p k (l.take k) := by
  refine ⟨by rw [List.length_take, h.len]; omega, fun x hx => h.wf x (List.mem_of_mem_take hx), fun h0 => ?_⟩
  obtain ⟨b, o, e, hr⟩ := h.cells (by omega)
  refine ⟨b, o, e, fun j v hv => hr j v ?_⟩
  have e2 : EC l = EC (l.take k) ++ EC (l.drop k) := by rw [← EC_append, List.take_append_drop]
  rw [e2, List.getElem?_append_left (List.getElem?_eq_some_iff.1 hv).1]; exact hv
theorem EIn.grown {w w' : World} {g n : Nat} {l : List En} {row : Option Nat} (h : EIn w (some ⟨g, 0, none⟩) n l) (hg : w.grownBy w' row) (hne : row ≠ some g) : EIn w' (some ⟨g, 0, none⟩) n l := by
  refine ⟨h.len, h.wf, fun h0 => ?_⟩
  obtain ⟨b, o, e, hr⟩ := h.cells h0
  cases e
  exact ⟨g, 0, rfl, range_block hr (hg.block g (range_lt hr (by rw [EC_len h.wf, h.len]; omega)) fun e' => hne e'.symm)⟩
/-- from the place k on -/
def dropB (q : Option Addr) (k c : Nat) : Option Addr := if c = k then q else q.map (·.add (k * 34))
theorem EIn.drop {w : World} {q : Option Addr} {n : Nat} {l : List En} (h : EIn w q n l) {k c : Nat} (hk : k ≤ n) (hc : n ≤ c) : EIn w (dropB q k c) (n - k) (l.drop k) := by
  refine ⟨by rw [List.length_drop, h.len], fun x hx => h.wf x (List.mem_of_mem_drop hx), fun h0 => ?_⟩
  obtain ⟨b, o, e, hr⟩ := h.cells (by omega)
  subst e
  refine ⟨b, o + k * 34, by unfold dropB; rw [if_neg (by omega), Option.map_some, Addr.add_mid], fun j v hv => ?_⟩
  have e2 : EC l = EC (l.take k) ++ EC (l.drop k) := by rw [← EC_append, List.take_append_drop]
  have el : (EC (l.take k)).length = k * 34 := by rw [EC_len fun x hx => h.wf x (List.mem_of_mem_take hx), List.length_take, h.len, Nat.min_eq_left hk]
  have := hr (k * 34 + j) v (by rw [e2, List.getElem?_append_right (by omega), el, Nat.add_sub_cancel_left]; exact hv)
  rw [Nat.add_assoc]; exact this
theorem EIn.cp {w : World} {b o n : Nat} {l : List En} (h : EIn w (some ⟨b, o, none⟩) n l) {k : Nat} {i : En} (hk : l[k]? = some i) : w.cell? ⟨b, o + k * 34 + 33, none⟩ = some (.int .u64 i.p) := h.at hk 33 _ (ecells_p (h.wf i (List.mem_of_getElem? hk)).len)
theorem EIn.vat {w : World} {b o n : Nat} {l : List En} (h : EIn w (some ⟨b, o, none⟩) n l) {k : Nat} {i : En} (hk : l[k]? = some i) : w.rangeAt b (o + k * 34 + 1) (U8 i.v) := fun j v hj => by
  rw [show o + k * 34 + 1 + j = o + k * 34 + (j + 1) by omega]
  exact h.at hk (j + 1) v (ecells_v j v hj)
theorem EIn.loadv {w : World} {b o n : Nat} {l : List En} (h : EIn w (some ⟨b, o, none⟩) n l) {k : Nat} {i : En} (hk : l[k]? = some i) : (Instr.loadAt 52 (.pointer (some ⟨b, o + k * 34 + 1, none⟩))).run Tryd.prog w = .ok (.agg (U8 i.v).toArray) w :=
  run_loadAt_mid w b (o + k * 34 + 1) 52 (U8 i.v) _ (h.vat hk) Tryd.underlying52 rfl (by rw [sizeV, U8_length, (h.wf i (List.mem_of_getElem? hk)).len])
theorem EIn.load {ts te : TypeId} (T : ET ts te) {w : World} {b o n : Nat} {l : List En} (h : EIn w (some ⟨b, o, none⟩) n l) {k : Nat} {i : En} (hk : l[k]? = some i) : (Instr.loadAt te (.pointer (some ⟨b, o + k * 34, none⟩))).run Tryd.prog w = .ok (.agg (ecells i).toArray) w :=
  run_loadAt_mid w b (o + k * 34) te (ecells i) _ (h.at hk) T.un (isRowS _) (by rw [T.size, ecells_len (h.wf i (List.mem_of_getElem? hk)).len])
/-- a row of entries that is ours -/
abbrev EOwn (te : TypeId) (w : World) (B : Nat) (v : Value) (l : List En) : Prop := w.ownsRow B te 34 v l.length (EC l)
theorem EOwn.in {te : TypeId} {w : World} {B : Nat} {v : Value} {l : List En} (h : EOwn te w B v l) (hw : EnsWf l) : ∃ p c, v = .slice p l.length c ∧ EIn w p l.length l ∧ l.length ≤ c ∧ c ≤ maxLen := by
  rcases h.2 with ⟨e, e2⟩ | ⟨g, cap, cur, e, _, hg, h1, h2, h3, h4⟩
  · refine ⟨none, 0, by rw [e, e2], ?_, by omega, by decide⟩
    exact ⟨rfl, hw, fun h0 => by omega⟩
  · refine ⟨_, cap, e, ⟨rfl, hw, fun _ => ⟨g, 0, rfl, fun j v hv => ?_⟩⟩, h1, h2⟩
    rw [Nat.zero_add, cell_of_row w g j cur te (0, 0) hg]
    have hj := (List.getElem?_eq_some_iff.1 hv).1
    rw [← h4, List.getElem?_take] at hv
    split at hv
    · simpa using hv
    · cases hv
theorem EOwn.later {te : TypeId} {w w' : World} {B : Nat} {v : Value} {l : List En} (h : EOwn te w B v l) (hb : Below w.heap.size w w') : EOwn te w' B v l := h.kept (grown_of_below hb) (by cases hh : v.ownBlock <;> simp)
/-- the first of a row of ours -/
theorem EOwn.pre {te : TypeId} {W : World} {B g n c : Nat} {l : List En} (h : EOwn te W B (.slice (some ⟨g, 0, none⟩) n c) l) (hw : EnsWf l) (k : Nat) (hk : k ≤ l.length) : EOwn te W B (.slice (some ⟨g, 0, none⟩) k c) (l.take k) := by
  have hlk : (l.take k).length = k := by rw [List.length_take]; omega
  have hwk : EnsWf (l.take k) := fun x hx => hw x (List.mem_of_mem_take hx)
  rcases h.2 with ⟨e, _⟩ | ⟨g', cap, cur, e, h0, hg, h1, h2, h3, h4⟩
  · cases e
  · cases e
    refine ⟨by rw [EC_len hwk], .inr ⟨g, c, cur, by rw [hlk], h0, hg, by omega, h2, h3, ?_⟩⟩
    rw [hlk]
    have e2 : EC l = EC (l.take k) ++ EC (l.drop k) := by rw [← EC_append, List.take_append_drop]
    have el : (EC (l.take k)).length = k * 34 := by rw [EC_len hwk, hlk]
    have : cur.toList.take (k * 34) = (cur.toList.take (l.length * 34)).take (k * 34) := by rw [List.take_take, Nat.min_eq_left (Nat.mul_le_mul_right _ hk)]
    rw [this, h4, e2, ← el, List.take_left]
theorem fill_eb (i : En) (h : i.v.length = 32) (b : Int) (rest : List (Nat × Value)) : Instr.fill (plE.toArray[·]?) (ecells i).toArray ((0, .int .i64 b) :: rest) = Instr.fill (plE.toArray[·]?) (ecells ⟨b, i.v, i.p⟩).toArray rest :=
  fill_step 0 1 0 rfl _ [.int .i64 b] _ rfl rfl (by rw [ecells_len h]; omega) rest
theorem fill_ev (i : En) (h : i.v.length = 32) (v : List Int) (hv : v.length = 32) (rest : List (Nat × Value)) : Instr.fill (plE.toArray[·]?) (ecells i).toArray ((1, .agg (U8 v).toArray) :: rest) = Instr.fill (plE.toArray[·]?) (ecells ⟨i.b, v, i.p⟩).toArray rest := by
  rw [fill_step 1 32 1 rfl _ (U8 v) _ rfl (by rw [U8_length, hv]) (by rw [ecells_len h]; omega) rest]
  congr 2
  rw [U8_length, hv]
  have e : ((U8 i.v ++ [Value.int .u64 i.p])).drop 32 = [.int .u64 i.p] := by
    rw [show (32 : Nat) = (U8 i.v).length by rw [U8_length, h], List.drop_left]
  simp only [ecells, List.take_succ_cons, List.take_zero, List.cons_append, List.nil_append]
  rw [show (1 + 32 : Nat) = 32 + 1 from rfl, List.drop_succ_cons, e]
theorem fill_ep (i : En) (h : i.v.length = 32) (p : Int) (rest : List (Nat × Value)) : Instr.fill (plE.toArray[·]?) (ecells i).toArray ((2, .int .u64 p) :: rest) = Instr.fill (plE.toArray[·]?) (ecells ⟨i.b, i.v, p⟩).toArray rest := by
  rw [fill_step 33 1 2 rfl _ [.int .u64 p] _ rfl rfl (by rw [ecells_len h]; omega) rest]
  congr 2
  have e : ((U8 i.v ++ [Value.int .u64 i.p])).take 32 = U8 i.v := by
    rw [show (32 : Nat) = (U8 i.v).length by rw [U8_length, h], List.take_left]
  simp only [ecells]
  rw [show (33 : Nat) = 32 + 1 from rfl, List.take_succ_cons, e, List.drop_of_length_le (by simp [h])]
  simp
theorem buildE {ts te : TypeId} (T : ET ts te) (w : World) (b : Int) (v : List Int) (p : Int) (hv : v.length = 32) : (Instr.build te #[(0, .int .i64 b), (1, .agg (U8 v).toArray), (2, .int .u64 p)]).run Tryd.prog w = .ok (.agg (ecells ⟨b, v, p⟩).toArray) w := by
  refine run_build w te _ _ ((built_of te _ _ _ T.places T.zero).trans ?_)
  show Instr.fill (plE.toArray[·]?) (ecells en0).toArray [(0, .int .i64 b), (1, .agg (U8 v).toArray), (2, .int .u64 p)] = _
  rw [fill_eb en0 (zs_len 32), fill_ev ⟨b, en0.v, en0.p⟩ (zs_len 32) v hv, fill_ep ⟨b, v, en0.p⟩ hv]; rfl
theorem buildE0 {ts te : TypeId} (T : ET ts te) (w : World) : (Instr.build te #[]).run Tryd.prog w = .ok (.agg (ecells en0).toArray) w :=
  run_build w te _ _ ((built_of te _ _ _ T.places T.zero).trans rfl)
theorem buildEb {ts te : TypeId} (T : ET ts te) (w : World) (b : Int) : (Instr.build te #[(0, .int .i64 b)]).run Tryd.prog w = .ok (.agg (ecells ⟨b, zs 32, 0⟩).toArray) w := by
  refine run_build w te _ _ ((built_of te _ _ _ T.places T.zero).trans ?_)
  show Instr.fill (plE.toArray[·]?) (ecells en0).toArray [(0, .int .i64 b)] = _
  rw [fill_eb en0 (zs_len 32)]; rfl
theorem allocE {ts te : TypeId} (T : ET ts te) (w : World) : (Instr.alloc te true (.tuple #[])).run Tryd.prog w = .ok (.pointer (some ⟨w.heap.size, 0, none⟩)) (w.alloc (.cells (ecells en0).toArray te)) := by
  simp only [Instr.alloc, Sem.run_bind, zv te _ T.zero, Result.andThen_ok]
  simp [newVar, newRow, Value.cells]
theorem store_newE {ts te : TypeId} (T : ET ts te) (w : World) (i : En) (hi : i.v.length = 32) : (Instr.storeAt te (.pointer (some ⟨w.heap.size, 0, none⟩)) (.agg (ecells i).toArray)).run Tryd.prog (w.alloc (.cells (ecells en0).toArray te)) = .ok () (w.alloc (.cells (ecells i).toArray te)) := by
  rw [(LAt.new te w (ecells en0)).store (ds := ecells i) (by rw [T.size, ecells_len hi]) (by rw [ecells_len hi, ecells_len (zs_len 32)]) (ecells_all i), setRow_alloc]
theorem LAt.loadE {ts te : TypeId} (T : ET ts te) {t : TypeId} {w : World} {g : Nat} {i : En} (h : LAt t w g (ecells i)) (hi : i.v.length = 32) : (Instr.loadAt te (.pointer (some ⟨g, 0, none⟩))).run Tryd.prog w = .ok (.agg (ecells i).toArray) w :=
  run_loadAt_mid w g 0 te (ecells i) _ (LAt.range h) T.un (isRowS _) (by rw [T.size, ecells_len hi])
theorem LAt.vrangeE {t : TypeId} {w : World} {g : Nat} {i : En} (h : LAt t w g (ecells i)) : w.rangeAt g 1 (U8 i.v) := fun j v hv => by
  rw [LAt.cell h (1 + j), Nat.add_comm]; exact ecells_v j v hv
theorem LAt.loadEv {t : TypeId} {w : World} {g : Nat} {i : En} (h : LAt t w g (ecells i)) (hi : i.v.length = 32) : (Instr.loadAt 52 (.pointer (some ⟨g, 1, none⟩))).run Tryd.prog w = .ok (.agg (U8 i.v).toArray) w :=
  run_loadAt_mid w g 1 52 (U8 i.v) _ (LAt.vrangeE h) Tryd.underlying52 rfl (by rw [sizeV, U8_length, hi])
/-- one image as a slice -/
theorem build_en {ts te : TypeId} (T : ET ts te) (w : World) (i : En) (hi' : i.v.length = 32) : (Instr.buildSlice ts 1 #[(0, .agg (ecells i).toArray)]).run Tryd.prog w = .ok (.slice (some ⟨w.heap.size, 0, none⟩) 1 1) (w.alloc (.cells (ecells i).toArray te)) := by
  obtain ⟨i0, hi, hz0, hz1, hz2⟩ := info_parts T.inf
  refine run_buildSlice w ts te 1 _ _ i0 _ T.ut hi hz0 (by rw [hz1]; decide) (by rw [hz1]; decide) ?_
  rw [hz1]
  have hl : (ecells i).length = 34 := ecells_len hi'
  have hA : ∀ A : Array Value, A.size = 34 → Instr.fill (fun i => some (i * 34, 34)) A [(0, .agg (ecells i).toArray)] = some (ecells i).toArray := by
    intro A hA
    have a0 := part_fill 0 (ecells i) A.toList (by simp; omega)
    simp only [Instr.fill, Value.cells, List.size_toArray, Nat.zero_mul]
    rw [if_neg (by simp [hl, hA])]
    have a0' : (ecells i).toArray.zipIdx.foldl (fun cs x => match x with | (c, j) => cs.setIfInBounds (0 + j) c) A = ((A.toList.take 0 ++ ecells i ++ A.toList.drop (0 + (ecells i).length))).toArray := a0
    rw [a0', List.drop_eq_nil_of_le (by simp [hl, hA])]
    simp
  exact hA _ (by simp)
set_option maxRecDepth 100000 in
theorem partVE (w : World) (i : En) (h : i.v.length = 32) : (part 52 (ecells i).toArray 1).run Tryd.prog w = .ok (.agg (U8 i.v).toArray) w := by
  have hagg : (isAgg 52).run Tryd.prog w = .ok true w := by
    unfold isAgg
    rw [Sem.run_bind, run_underlying Tryd.underlying52 w]
    rfl
  have hx : (ecells i).toArray.extract 1 (1 + 32) = (U8 i.v).toArray := by
    rw [List.extract_toArray]
    congr 1
    show ((ecells i).drop 1).take (1 + 32 - 1) = _
    rw [show (ecells i).drop 1 = U8 i.v ++ [.int .u64 i.p] from rfl, show 1 + 32 - 1 = (U8 i.v).length by rw [U8_length, h], List.take_left]
  simp only [part, Sem.run_bind, hagg, Result.andThen_ok, if_true, sizeOfV, Sem.run_pure, hx]
theorem partU (w : World) (cs : List Value) (o : Nat) (v : Int) (h : cs[o]? = some (.int .u64 v)) : (part 44 cs.toArray o).run Tryd.prog w = .ok (.int .u64 v) w := by
  simp [part, isAgg, run_underlying Tryd.underlying44, h]
def enB (i j : En) : Bool := i.b == j.b && (decide (i.v = j.v) && i.p == j.p)
theorem enB_iff (i j : En) : enB i j = true ↔ i = j := by
  obtain ⟨a, b, p⟩ := i; obtain ⟨c, d, q⟩ := j
  simp [enB]
theorem equalE {ts te : TypeId} (T : ET ts te) (w : World) (d : Nat) (i j : En) (hi : i.v.length = 32) (hj : j.v.length = 32) : (Op.equalIn (d + 3) te (.agg (ecells i).toArray) (.agg (ecells j).toArray)).run Tryd.prog w = .ok (enB i j) w := by
  rw [run_equalIn_struct w (d + 2) te _ _ T.un T.held, eqParts_of, show (Tryd.prog.fieldsOf te).toList.map (fun f => (decide (f.name ≠ "_"), f.type, f.offset)) = flE from T.fls]
  unfold flE enB
  rw [eqParts_cons w _ _ _ 3 0 _ (part3 w (ecells i) 0 i.b rfl) (part3 w (ecells j) 0 j.b rfl) (run_equalIn_int w (d + 1) 3 .i64 .i64 _ _ Tryd.underlying3),
    eqParts_cons w _ _ _ 52 1 _ (partVE w i hi) (partVE w j hj) (equalV w d i.v j.v hi hj),
    eqParts_cons w _ _ _ 44 33 _ (partU w (ecells i) 33 i.p (ecells_p hi)) (partU w (ecells j) 33 j.p (ecells_p hj)) (run_equalIn_int w (d + 1) 44 .u64 .u64 _ _ Tryd.underlying44)]
  have e0 : (eqParts (d + 2) (ecells i).toArray (ecells j).toArray []).run Tryd.prog w = .ok true w := by rw [eqParts]; exact Sem.run_pure ..
  rw [e0]
  cases (i.b == j.b) <;> cases decide (i.v = j.v) <;> cases (i.p == j.p) <;> simp
theorem neqE {ts te : TypeId} (T : ET ts te) (w : World) (i j : En) (hi : i.v.length = 32) (hj : j.v.length = 32) : (binOp .neq te (.agg (ecells i).toArray) (.agg (ecells j).toArray)).run Tryd.prog w = .ok (.bool (!enB i j)) w := by
  rw [run_neq_struct, equalE T w 9997 i j hi hj]; rfl
theorem eqlE {ts te : TypeId} (T : ET ts te) (w : World) (i j : En) (hi : i.v.length = 32) (hj : j.v.length = 32) : (binOp .eql te (.agg (ecells i).toArray) (.agg (ecells j).toArray)).run Tryd.prog w = .ok (.bool (enB i j)) w := by
  rw [run_eql_struct, equalE T w 9997 i j hi hj]; rfl
theorem run_toE {ts te : TypeId} (T : ET ts te) (w : World) (q : Option Addr) (n c k : Nat) (hk : k ≤ c) : (Instr.sliceAt ts (.slice q n c) none (some (.int .i64 (k : Int))) none).run Tryd.prog w = .ok (.slice q k c) w := by
  obtain ⟨i0, hi, hz0, hz1, hz2⟩ := info_parts T.inf
  have he : Program.elem Tryd.prog ts = te := T.el
  have hu : Tryd.prog.underlying ts = some (.slice (Program.elem Tryd.prog ts)) := by rw [he]; exact T.ut
  rw [run_sliceAt_slice w ts _ _ _ _ hu, run_slice_h w ts q n c hu .i64 (k : Int) (by omega) (by omega)]
  have e : (sizeOf (Program.elem Tryd.prog ts)).run Tryd.prog w = .ok 34 w := by
    rw [he]
    simp [sizeOf, typeInfo, hi, hz1]
  rw [e]
  simp only [Result.andThen_ok, sliced, Int.toNat_natCast, Nat.zero_mul, Nat.sub_zero]
  cases q with
  | none => simp
  | some a => simp [Addr.add]
theorem run_fromE {ts te : TypeId} (T : ET ts te) (w : World) (q : Option Addr) (n c k : Nat) (hk : k ≤ n) : (Instr.sliceAt ts (.slice q n c) (some (.int .i64 (k : Int))) none none).run Tryd.prog w = .ok (.slice (dropB q k c) (n - k) (c - k)) w := by
  obtain ⟨i0, hi, hz0, hz1, hz2⟩ := info_parts T.inf
  have he : Program.elem Tryd.prog ts = te := T.el
  have hu : Tryd.prog.underlying ts = some (.slice (Program.elem Tryd.prog ts)) := by rw [he]; exact T.ut
  rw [run_sliceAt_slice w ts _ _ _ _ hu, run_slice_l w ts q n c hu .i64 (k : Int) (by omega) (by omega)]
  have e : (sizeOf (Program.elem Tryd.prog ts)).run Tryd.prog w = .ok 34 w := by
    rw [he]
    simp [sizeOf, typeInfo, hi, hz1]
  rw [e]
  simp only [Result.andThen_ok, sliced, Int.toNat_natCast]
  rfl
/-- images appended onto a row of ours -/
theorem app_ens {ts te : TypeId} (T : ET ts te) {W : World} {B : Nat} {v : Value} {l0 l : List En} {q : Option Addr} {m c : Nat} (h0 : EOwn te W B v l0) (hw0 : EnsWf l0) (h : EIn W q m l) (hm : l0.length + m ≤ 3000000) (hB : B ≤ W.heap.size) : ∃ q' c' W', (Builtin.append_ #[ts, ts] ts #[v, .slice q m c]).run Tryd.prog W = .ok (.slice q' (l0 ++ l).length c') W' ∧ EOwn te W' B (.slice q' (l0 ++ l).length c') (l0 ++ l) ∧ W.grownBy W' v.ownBlock ∧ ((Value.slice q' (l0 ++ l).length c').ownBlock = v.ownBlock ∨ (Value.slice q' (l0 ++ l).length c').ownBlock = some W.heap.size) := by
  obtain ⟨i0, hi0, hz0, hz1, hz2⟩ := info_parts T.inf
  have h65 : (4000000 : Nat) ≤ maxLen := by decide
  have hwf : EnsWf (l0 ++ l) := fun x hx => (List.mem_append.1 hx).elim (hw0 x) (h.wf x)
  have go : ∀ (ad : Addr), q = some ad → ∃ q' c' W', (Builtin.append_ #[ts, ts] ts #[v, .slice q m c]).run Tryd.prog W = .ok (.slice q' (l0 ++ l).length c') W' ∧ EOwn te W' B (.slice q' (l0 ++ l).length c') (l0 ++ l) ∧ W.grownBy W' v.ownBlock ∧ ((Value.slice q' (l0 ++ l).length c').ownBlock = v.ownBlock ∨ (Value.slice q' (l0 ++ l).length c').ownBlock = some W.heap.size) := by
    rintro ad rfl
    obtain ⟨v', W', hrun, hown', hgrow, -, hat⟩ := run_append_own_at (P := Tryd.prog) W B ts ts te i0 _ 34 48 T.ut hi0 hz0 hz1 hz2 rfl (by decide) v l0.length (EC l0) h0 ad m c (EC l) (by rw [EC_len h.wf, h.len]) (fun j u hu => by
      by_cases hp : 0 < m
      · obtain ⟨b', o', e, hr⟩ := h.cells hp
        cases e
        rw [Addr.add_mid]
        exact hr j u hu
      · have : l = [] := List.length_eq_zero_iff.1 (by rw [h.len]; omega)
        rw [this] at hu; simp [EC] at hu) (EC_ones l) (by omega) (by omega) hB
    have hown2 : EOwn te W' B v' (l0 ++ l) := by
      rw [EOwn, List.length_append, h.len, EC_append]; exact hown'
    obtain ⟨q', c', rfl, -, -, -⟩ := EOwn.in hown2 hwf
    exact ⟨q', c', W', hrun, hown2, hgrow, hat⟩
  by_cases hp : 0 < m
  · obtain ⟨b, o, e, -⟩ := h.cells hp
    exact go _ e
  · have m0 : m = 0 := by omega
    have e0 : l = [] := List.length_eq_zero_iff.1 (by rw [h.len, m0])
    cases q with
    | none =>
      subst m0; subst e0
      have hr : (Builtin.append_ #[ts, ts] ts #[v, .slice none 0 c]).run Tryd.prog W = .ok v W := by
        rcases h0.2 with ⟨rfl, _⟩ | ⟨g, cap, cur, rfl, _, _, hnc, _⟩
        · simp [Builtin.append_, run_underlying T.ut, sizeOf, typeInfo, hi0, Builtin.lenOf, Builtin.firstCells]
        · simp [Builtin.append_, run_underlying T.ut, sizeOf, typeInfo, hi0, Builtin.lenOf, Builtin.firstCells, hnc, storeCells]
      obtain ⟨q', c', rfl, -, -, -⟩ := EOwn.in h0 hw0
      rw [List.append_nil]
      exact ⟨q', c', W, hr, h0, ⟨rfl, rfl, rfl, Nat.le_refl _, fun _ _ _ => rfl⟩, .inl rfl⟩
    | some ad => exact go ad rfl
/-- one image written over -/
theorem EOwn.put {ts te : TypeId} (T : ET ts te) {W : World} {B g n c : Nat} {l : List En} (h : EOwn te W B (.slice (some ⟨g, 0, none⟩) n c) l) (hw : EnsWf l) (i : En) (hi : i.Wf) (k : Nat) (hk : k < l.length) :
    ∃ W', (Instr.storeAt te (.pointer (some ⟨g, k * 34, none⟩)) (.agg (ecells i).toArray)).run Tryd.prog W = .ok () W' ∧ EOwn te W' B (.slice (some ⟨g, 0, none⟩) n c) (l.take k ++ [i] ++ l.drop (k + 1)) ∧ W.grownBy W' (some g) := by
  obtain ⟨i0, hi0, hz0, hz1, hz2⟩ := info_parts T.inf
  have hwt : EnsWf (l.take k) := fun x hx => hw x (List.mem_of_mem_take hx)
  have hwd : EnsWf (l.drop (k + 1)) := fun x hx => hw x (List.mem_of_mem_drop hx)
  have hll : (l.take k ++ [i] ++ l.drop (k + 1)).length = l.length := by simp; omega
  rcases h.2 with ⟨e, _⟩ | ⟨g', cap, cur, e, h0, hg, h1, h2, h3, h4⟩
  · cases e
  · cases e
    have hsz : cur.size = c * 34 := h3
    have hst := run_storeCells_at Tryd.prog g (k * 34) te (ecells i) 0 cur W hg (by rw [ecells_len hi.len]; omega) (ecells_ones i)
    rw [Nat.add_zero, ecells_len hi.len] at hst
    have hr : (Instr.storeAt te (.pointer (some ⟨g, k * 34, none⟩)) (.agg (ecells i).toArray)).run Tryd.prog W = .ok () (W.setRow g (cur.toList.take (k * 34) ++ ecells i ++ cur.toList.drop (k * 34 + 34)).toArray) := by
      simp [Instr.storeAt, Instr.sureAddr, storeVar, sizeOf, typeInfo, hi0, hz1, Value.cells, ecells_len hi.len, hst]
    refine ⟨_, hr, ⟨?_, .inr ⟨g, c, _, by rw [hll], h0, setRow_heap W g cur _ te _ hg, by rw [hll]; exact h1, h2, ?_, ?_⟩⟩, ⟨rfl, rfl, rfl, by simp, fun k _ hk => setRow_other W g k _ (fun e => hk (by simp [e]))⟩⟩
    · rw [hll, EC_len, hll]
      intro x hx
      rcases List.mem_append.1 hx with hx | hx
      · rcases List.mem_append.1 hx with hx | hx
        · exact hwt x hx
        · rw [List.mem_singleton.1 hx]; exact hi
      · exact hwd x hx
    · simp only [List.size_toArray, List.length_append, List.length_take, List.length_drop, Array.length_toList, ecells_len hi.len]
      omega
    · have ec : cur.toList = EC l ++ cur.toList.drop (l.length * 34) := by rw [← h4, List.take_append_drop]
      have e2 : EC l = EC (l.take k) ++ (ecells l[k] ++ EC (l.drop (k + 1))) := by
        have e0 : l = l.take k ++ ([l[k]] ++ l.drop (k + 1)) := by
          rw [List.singleton_append, ← List.drop_eq_getElem_cons hk, List.take_append_drop]
        have e1 : EC l = EC (l.take k ++ ([l[k]] ++ l.drop (k + 1))) := congrArg EC e0
        rw [e1, EC_append, EC_append, show EC [l[k]] = ecells l[k] by simp [EC]]
      have el : (EC (l.take k)).length = k * 34 := by rw [EC_len hwt, List.length_take, Nat.min_eq_left (by omega)]
      have ex : (ecells l[k]).length = 34 := ecells_len (hw _ (List.getElem_mem hk)).len
      have t1 : cur.toList.take (k * 34) = EC (l.take k) := by
        have e5 : cur.toList = EC (l.take k) ++ ((ecells l[k] ++ EC (l.drop (k + 1))) ++ cur.toList.drop (l.length * 34)) := by rw [← List.append_assoc, ← e2]; exact ec
        rw [← el, e5, List.take_left]
      have t2 : cur.toList.drop (k * 34 + 34) = EC (l.drop (k + 1)) ++ cur.toList.drop (l.length * 34) := by
        have e5 : cur.toList = (EC (l.take k) ++ ecells l[k]) ++ (EC (l.drop (k + 1)) ++ cur.toList.drop (l.length * 34)) := by
          rw [← List.append_assoc, List.append_assoc (EC (l.take k)), ← e2]; exact ec
        generalize cur.toList.drop (l.length * 34) = rest at *
        rw [e5, show k * 34 + 34 = (EC (l.take k) ++ ecells l[k]).length by rw [List.length_append, el, ex], List.drop_left]
      have e3 : EC (l.take k ++ [i] ++ l.drop (k + 1)) = EC (l.take k) ++ ecells i ++ EC (l.drop (k + 1)) := by rw [EC_append, EC_append]; simp [EC]
      have e4 : (EC (l.take k) ++ ecells i ++ EC (l.drop (k + 1))).length = l.length * 34 := by
        have hd : (l.drop (k + 1)).length = l.length - (k + 1) := List.length_drop
        rw [List.length_append, List.length_append, el, ecells_len hi.len, EC_len hwd, hd]; omega
      rw [hll, t1, t2, e3]
      show List.take _ (EC (l.take k) ++ ecells i ++ (EC (l.drop (k + 1)) ++ _)) = _
      rw [← List.append_assoc, ← e4, List.take_left]
end Go.Proofs.YthcpnfelnonhnaaDoor
