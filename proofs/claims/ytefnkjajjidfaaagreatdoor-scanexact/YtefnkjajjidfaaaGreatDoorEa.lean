/-
  Layer 10: how images, transactions and logs lie in memory; what the operations on them do, said once.
-/
import Derived.Test.YtefnkjajjidfaaaGreatDoorNw
import Derived.Test.YtefnkjajjidfaaaGreatDoorSy
import Derived.Test.YtefnkjajjidfaaaGreatDoorRLc
import Derived.Test.YtefnkjajjidfaaaGreatDoorVa
import Derived.Maps.AppendAt
import Derived.Great.BuildSlice
import Derived.RangeFuncBox
namespace Go.Proofs.YtefnkjajjidfaaaGreatDoor
open Go.RowKit


theorem sizeI : (Tryz.prog.info? 57).map (·.size) = some 33 := by kernel_rfl
/-- an image's cells; those of images one behind the other -/
def icells (i : Im) : List Value := .int .i64 i.b :: U8 i.v
def im0 : Im := ⟨0, zs 32⟩
theorem icells_len {i : Im} (h : i.v.length = 32) : (icells i).length = 33 := by simp [icells, h]
theorem icells_ones (i : Im) : ∀ v ∈ icells i, v.oneCell' = true := fun v hv => by
  rcases List.mem_cons.1 hv with rfl | hv
  · rfl
  · exact ones_u8 _ v hv
theorem icells_all (i : Im) : (icells i).toArray.all (·.oneCell') = true := all_oneCell_toArray (icells_ones i)
def IC (l : List Im) : List Value := (l.map icells).flatten
theorem IC_nil : IC [] = [] := rfl
theorem IC_snoc (l : List Im) (i : Im) : IC (l ++ [i]) = IC l ++ icells i := by simp [IC]
theorem IC_append (l m : List Im) : IC (l ++ m) = IC l ++ IC m := by simp [IC]
theorem IC_len {l : List Im} (h : ImsWf l) : (IC l).length = l.length * 33 := by
  have := flat_length (m := 33) (l.map icells) (fun x hx => by
    obtain ⟨i, hi, rfl⟩ := List.mem_map.1 hx
    exact icells_len (h i hi).len)
  rw [List.length_map] at this
  exact this
theorem IC_at {l : List Im} (h : ImsWf l) {k : Nat} {i : Im} (hk : l[k]? = some i) (j : Nat) (hj : j < 33) : (IC l)[33 * k + j]? = (icells i)[j]? := by
  obtain ⟨hk', e⟩ := List.getElem?_eq_some_iff.1 hk
  have := flat_at (m := 33) (l.map icells) (fun x hx => by
    obtain ⟨i, hi, rfl⟩ := List.mem_map.1 hx
    exact icells_len (h i hi).len) k (by simpa using hk') j hj
  rw [IC, this]
  simp [e]
theorem IC_ones (l : List Im) : ∀ v ∈ IC l, v.oneCell' = true := fun v hv => by
  obtain ⟨c, hc, hv⟩ := List.mem_flatten.1 hv
  obtain ⟨i, _, rfl⟩ := List.mem_map.1 hc
  exact icells_ones i v hv
def plI : List (Nat × Nat) := [(0, 1), (1, 32)]
theorem placesI : placesOf Tryz.prog 57 = some plI := by kernel_rfl
theorem zeroI : (Tryz.prog.info? 57).bind (·.zero) = some (.agg (icells im0).toArray) := by kernel_rfl
theorem infoI : (Tryz.prog.info? 57).map (fun i => (i.zero, i.size, i.bytes)) = some (some (.agg (icells im0).toArray), 33, 40) := by kernel_rfl
theorem fill_ib (i : Im) (h : i.v.length = 32) (b : Int) (rest : List (Nat × Value)) : Instr.fill (plI.toArray[·]?) (icells i).toArray ((0, .int .i64 b) :: rest) = Instr.fill (plI.toArray[·]?) (icells ⟨b, i.v⟩).toArray rest :=
  fill_step 0 1 0 rfl _ [.int .i64 b] _ rfl rfl (by rw [icells_len h]; omega) rest
theorem fill_iv (i : Im) (h : i.v.length = 32) (v : List Int) (hv : v.length = 32) (rest : List (Nat × Value)) : Instr.fill (plI.toArray[·]?) (icells i).toArray ((1, .agg (U8 v).toArray) :: rest) = Instr.fill (plI.toArray[·]?) (icells ⟨i.b, v⟩).toArray rest := by
  rw [fill_step 1 32 1 rfl _ (U8 v) _ rfl (by rw [U8_length, hv]) (by rw [icells_len h]; omega) rest]
  congr 2
  rw [U8_length, hv]
  simp only [icells, List.take_succ_cons, List.take_zero, List.cons_append, List.nil_append, List.drop_succ_cons]
  rw [List.drop_of_length_le (by rw [U8_length, h]; omega), List.append_nil]
theorem buildI (w : World) (b : Int) (v : List Int) (hv : v.length = 32) : (Instr.build 57 #[(0, .int .i64 b), (1, .agg (U8 v).toArray)]).run Tryz.prog w = .ok (.agg (icells ⟨b, v⟩).toArray) w := by
  refine run_build w 57 _ _ ((built_of 57 _ _ _ placesI zeroI).trans ?_)
  show Instr.fill (plI.toArray[·]?) (icells im0).toArray [(0, .int .i64 b), (1, .agg (U8 v).toArray)] = _
  rw [fill_ib im0 (zs_len 32), fill_iv ⟨b, im0.v⟩ (zs_len 32) v hv]; rfl
theorem buildIb (w : World) (b : Int) : (Instr.build 57 #[(0, .int .i64 b)]).run Tryz.prog w = .ok (.agg (icells ⟨b, zs 32⟩).toArray) w := by
  refine run_build w 57 _ _ ((built_of 57 _ _ _ placesI zeroI).trans ?_)
  show Instr.fill (plI.toArray[·]?) (icells im0).toArray [(0, .int .i64 b)] = _
  rw [fill_ib im0 (zs_len 32)]; rfl
theorem allocI (w : World) : (Instr.alloc 57 true (.tuple #[])).run Tryz.prog w = .ok (.pointer (some ⟨w.heap.size, 0, none⟩)) (w.alloc (.cells (icells im0).toArray 57)) := by
  simp only [Instr.alloc, Sem.run_bind, zv 57 _ zeroI, Result.andThen_ok]
  simp [newVar, newRow, Value.cells]
theorem store_newI (w : World) (i : Im) (hi : i.v.length = 32) : (Instr.storeAt 57 (.pointer (some ⟨w.heap.size, 0, none⟩)) (.agg (icells i).toArray)).run Tryz.prog (w.alloc (.cells (icells im0).toArray 57)) = .ok () (w.alloc (.cells (icells i).toArray 57)) := by
  rw [(LAt.new 57 w (icells im0)).store (ds := icells i) (by rw [sizeI, icells_len hi]) (by rw [icells_len hi, icells_len (zs_len 32)]) (icells_all i), setRow_alloc]
theorem LAt.loadI {t : TypeId} {w : World} {g : Nat} {i : Im} (h : LAt t w g (icells i)) (hi : i.v.length = 32) : (Instr.loadAt 57 (.pointer (some ⟨g, 0, none⟩))).run Tryz.prog w = .ok (.agg (icells i).toArray) w :=
  run_loadAt_mid w g 0 57 (icells i) _ (LAt.range h) Tryz.underlying57 rfl (by rw [sizeI, icells_len hi])
theorem LAt.vrangeI {t : TypeId} {w : World} {g : Nat} {i : Im} (h : LAt t w g (icells i)) : w.rangeAt g 1 (U8 i.v) := fun j v hv => by
  rw [LAt.cell h (1 + j), Nat.add_comm]; exact hv
theorem LAt.loadIv {t : TypeId} {w : World} {g : Nat} {i : Im} (h : LAt t w g (icells i)) (hi : i.v.length = 32) : (Instr.loadAt 55 (.pointer (some ⟨g, 1, none⟩))).run Tryz.prog w = .ok (.agg (U8 i.v).toArray) w :=
  run_loadAt_mid w g 1 55 (U8 i.v) _ (LAt.vrangeI h) Tryz.underlying55 rfl (by rw [sizeV, U8_length, hi])
/-- one image as a slice -/
theorem build_im (w : World) (i : Im) (hi' : i.v.length = 32) : (Instr.buildSlice 52 1 #[(0, .agg (icells i).toArray)]).run Tryz.prog w = .ok (.slice (some ⟨w.heap.size, 0, none⟩) 1 1) (w.alloc (.cells (icells i).toArray 57)) := by
  obtain ⟨i0, hi, hz0, hz1, hz2⟩ := info_parts infoI
  refine run_buildSlice w 52 57 1 _ _ i0 _ Tryz.underlying52 hi hz0 (by rw [hz1]; decide) (by rw [hz1]; decide) ?_
  rw [hz1]
  have hl : (icells i).length = 33 := icells_len hi'
  have hA : ∀ A : Array Value, A.size = 33 → Instr.fill (fun i => some (i * 33, 33)) A [(0, .agg (icells i).toArray)] = some (icells i).toArray := by
    intro A hA
    have a0 := part_fill 0 (icells i) A.toList (by simp; omega)
    simp only [Instr.fill, Value.cells, List.size_toArray, Nat.zero_mul]
    rw [if_neg (by simp [hl, hA])]
    have a0' : (icells i).toArray.zipIdx.foldl (fun cs x => match x with | (c, j) => cs.setIfInBounds (0 + j) c) A = ((A.toList.take 0 ++ icells i ++ A.toList.drop (0 + (icells i).length))).toArray := a0
    rw [a0', List.drop_eq_nil_of_le (by simp [hl, hA])]
    simp
  exact hA _ (by simp)

/-- images that can be read -/
structure MIn (w : World) (p : Option Addr) (n : Nat) (l : List Im) : Prop where
  len : l.length = n
  wf : ImsWf l
  cells : 0 < n → ∃ b o, p = some ⟨b, o, none⟩ ∧ w.rangeAt b o (IC l)
theorem MIn.nil (w : World) (p : Option Addr) : MIn w p 0 [] := ⟨rfl, ImsWf.nil, fun h => absurd h (Nat.lt_irrefl 0)⟩
theorem range_lt {w : World} {b o : Nat} {cs : List Value} (h : w.rangeAt b o cs) (h0 : 0 < cs.length) : b < w.heap.size := by
  have := h 0 cs[0] (by rw [List.getElem?_eq_getElem h0])
  exact World.block_lt_of_cell? w _ this
theorem range_block {w w' : World} {b o : Nat} {cs : List Value} (h : w.rangeAt b o cs) (hb : w'.heap[b]? = w.heap[b]?) : w'.rangeAt b o cs := fun j v hv => (World.cell?_of_block (a := ⟨b, o + j, none⟩) hb).trans (h j v hv)
theorem MIn.later {w w' : World} {p : Option Addr} {n : Nat} {l : List Im} (h : MIn w p n l) (hb : Below w.heap.size w w') : MIn w' p n l := by
  refine ⟨h.len, h.wf, fun h0 => ?_⟩
  obtain ⟨b, o, e, hr⟩ := h.cells h0
  exact ⟨b, o, e, range_block hr (hb.block b (range_lt hr (by rw [IC_len h.wf, h.len]; omega)))⟩
theorem MIn.at {w : World} {b o n : Nat} {l : List Im} (h : MIn w (some ⟨b, o, none⟩) n l) {k : Nat} {i : Im} (hk : l[k]? = some i) : w.rangeAt b (o + k * 33) (icells i) := fun j v hv => by
  have hk' := (List.getElem?_eq_some_iff.1 hk).1
  obtain ⟨b', o', e, hr⟩ := h.cells (by rw [← h.len]; omega)
  cases e
  have hj : j < 33 := by have := (List.getElem?_eq_some_iff.1 hv).1; rw [icells_len (h.wf i (List.mem_of_getElem? hk)).len] at this; exact this
  have := hr (33 * k + j) v (by rw [IC_at h.wf hk j hj]; exact hv)
  rw [show o + k * 33 + j = o + (33 * k + j) by omega]; exact this
theorem MIn.c0 {w : World} {b o n : Nat} {l : List Im} (h : MIn w (some ⟨b, o, none⟩) n l) {k : Nat} {i : Im} (hk : l[k]? = some i) : w.cell? ⟨b, o + k * 33, none⟩ = some (.int .i64 i.b) := h.at hk 0 _ rfl
theorem MIn.load {w : World} {b o n : Nat} {l : List Im} (h : MIn w (some ⟨b, o, none⟩) n l) {k : Nat} {i : Im} (hk : l[k]? = some i) : (Instr.loadAt 57 (.pointer (some ⟨b, o + k * 33, none⟩))).run Tryz.prog w = .ok (.agg (icells i).toArray) w :=
  run_loadAt_mid w b (o + k * 33) 57 (icells i) _ (h.at hk) Tryz.underlying57 rfl (by rw [sizeI, icells_len (h.wf i (List.mem_of_getElem? hk)).len])
theorem MIn.take {w : World} {p : Option Addr} {n : Nat} {l : List Im} (h : MIn w p n l) (k : Nat) (hk : k ≤ n) : MIn w p k (l.take k) := by
  refine ⟨by rw [List.length_take, h.len]; omega, fun x hx => h.wf x (List.mem_of_mem_take hx), fun h0 => ?_⟩
  obtain ⟨b, o, e, hr⟩ := h.cells (by omega)
  refine ⟨b, o, e, fun j v hv => hr j v ?_⟩
  have e2 : IC l = IC (l.take k) ++ IC (l.drop k) := by rw [← IC_append, List.take_append_drop]
  rw [e2, List.getElem?_append_left (List.getElem?_eq_some_iff.1 hv).1]; exact hv
/-- a row of images that is ours -/
abbrev IOwn (w : World) (B : Nat) (v : Value) (l : List Im) : Prop := w.ownsRow B 57 33 v l.length (IC l)
theorem IOwn.in {w : World} {B : Nat} {v : Value} {l : List Im} (h : IOwn w B v l) (hw : ImsWf l) : ∃ p c, v = .slice p l.length c ∧ MIn w p l.length l ∧ l.length ≤ c ∧ c ≤ maxLen := by
  rcases h.2 with ⟨e, e2⟩ | ⟨g, cap, cur, e, _, hg, h1, h2, h3, h4⟩
  · refine ⟨none, 0, by rw [e, e2], ?_, by omega, by decide⟩
    exact ⟨rfl, hw, fun h0 => by omega⟩
  · refine ⟨_, cap, e, ⟨rfl, hw, fun _ => ⟨g, 0, rfl, fun j v hv => ?_⟩⟩, h1, h2⟩
    rw [Nat.zero_add, cell_of_row w g j cur 57 (0, 0) hg]
    have hj := (List.getElem?_eq_some_iff.1 hv).1
    rw [← h4, List.getElem?_take] at hv
    split at hv
    · simpa using hv
    · cases hv
theorem own_ne {w : World} {B C s1 s2 n m : Nat} {e1 e2 : TypeId} {u v : Value} {xs ys : List Value} (h : w.ownsRow B e1 s1 u n xs) (k : w.ownsRow C e2 s2 v m ys) (hne : e1 ≠ e2) : u.ownBlock = none ∨ u.ownBlock ≠ v.ownBlock := by
  rcases h.2 with ⟨rfl, _⟩ | ⟨g, cap, cur, rfl, _, hg, _⟩
  · exact .inl rfl
  · refine .inr fun e => ?_
    rcases k.2 with ⟨rfl, _⟩ | ⟨g', cap', cur', rfl, _, hg', _⟩
    · cases e
    · simp only [Value.ownBlock, Option.some.injEq] at e
      subst e
      rw [hg] at hg'
      cases hg'
      exact hne rfl
theorem own_at {w : World} {B C s n m : Nat} {e : TypeId} {u : Value} {xs : List Value} (h : w.ownsRow B e s u n xs) (hC : ∀ k, u.ownBlock = some k → C ≤ k) (hm : n = m) : w.ownsRow C e s u m xs := by
  subst hm
  rcases h.2 with ⟨h1, h2⟩ | ⟨g, cap, cur, h1, _, h3⟩
  · exact ⟨h.1, .inl ⟨h1, h2⟩⟩
  · exact ⟨h.1, .inr ⟨g, cap, cur, h1, hC g (by rw [h1]; rfl), h3⟩⟩
/-- transactions' cells: the slices of their images beside -/
def TC (l : List (Int × Value)) : List Value := (l.map fun x => [Value.int .u64 x.1, x.2]).flatten
theorem TC_snoc (l : List (Int × Value)) (x : Int × Value) : TC (l ++ [x]) = TC l ++ [.int .u64 x.1, x.2] := by simp [TC]
theorem TC_len (l : List (Int × Value)) : (TC l).length = l.length * 2 := by
  have := flat_length (m := 2) (l.map fun x => [Value.int .u64 x.1, x.2]) (fun y hy => by obtain ⟨x, _, rfl⟩ := List.mem_map.1 hy; rfl)
  rw [List.length_map] at this; exact this
theorem TC_at (l : List (Int × Value)) {k : Nat} {x : Int × Value} (hk : l[k]? = some x) (j : Nat) (hj : j < 2) : (TC l)[2 * k + j]? = [Value.int .u64 x.1, x.2][j]? := by
  obtain ⟨hk', e⟩ := List.getElem?_eq_some_iff.1 hk
  have := flat_at (m := 2) (l.map fun x => [Value.int .u64 x.1, x.2]) (fun y hy => by obtain ⟨x, _, rfl⟩ := List.mem_map.1 hy; rfl) k (by simpa using hk') j hj
  rw [TC, this]; simp [e]
/-- transactions that can be read -/
structure XIn (w : World) (p : Option Addr) (n : Nat) (l : List TX) : Prop where
  len : l.length = n
  cells : 0 < n → ∃ b o, p = some ⟨b, o, none⟩ ∧ ∀ (k : Nat) (t : TX), l[k]? = some t → ∃ q c, w.cell? ⟨b, o + k * 2, none⟩ = some (.int .u64 t.p) ∧ w.cell? ⟨b, o + k * 2 + 1, none⟩ = some (.slice q t.ims.length c) ∧ MIn w q t.ims.length t.ims ∧ t.ims.length ≤ c ∧ c ≤ maxLen
theorem XIn.nil (w : World) (p : Option Addr) : XIn w p 0 [] := ⟨rfl, fun h => absurd h (Nat.lt_irrefl 0)⟩
theorem XIn.later {w w' : World} {p : Option Addr} {n : Nat} {l : List TX} (h : XIn w p n l) (hb : Below w.heap.size w w') : XIn w' p n l := by
  refine ⟨h.len, fun h0 => ?_⟩
  obtain ⟨b, o, e, hr⟩ := h.cells h0
  refine ⟨b, o, e, fun k t hk => ?_⟩
  obtain ⟨q, c, h1, h2, h3, h4⟩ := hr k t hk
  have hl := World.block_lt_of_cell? w _ h1
  exact ⟨q, c, (World.cell?_of_block (hb.block b hl)).trans h1, (World.cell?_of_block (hb.block b hl)).trans h2, h3.later hb, h4⟩
/-- **transactions that are ours**: their row, and the rows of their images -/
structure XOwn (e : TypeId) (w : World) (B : Nat) (v : Value) (l : List TX) (vs : List Value) : Prop where
  len : vs.length = l.length
  row : w.ownsRow B e 2 v l.length (TC ((l.map (·.p)).zip vs))
  each : ∀ (k : Nat) (t : TX) (u : Value), l[k]? = some t → vs[k]? = some u → IOwn w B u t.ims
  wf : TxsWf l
theorem XOwn.nil (e : TypeId) (w : World) (B : Nat) : XOwn e w B (.slice none 0 0) [] [] := ⟨rfl, World.ownsRow_nil _ _ _ _, fun k t u h => by simp at h, TxsWf.nil⟩
theorem XOwn.in {e : TypeId} {w : World} {B : Nat} {v : Value} {l : List TX} {vs : List Value} (h : XOwn e w B v l vs) : ∃ p c, v = .slice p l.length c ∧ XIn w p l.length l ∧ l.length ≤ c ∧ c ≤ maxLen := by
  rcases h.row.2 with ⟨ev, e2⟩ | ⟨g, cap, cur, ev, _, hg, h1, h2, h3, h4⟩
  · refine ⟨none, 0, by rw [ev, e2], ?_, by omega, by decide⟩
    exact ⟨rfl, fun h0 => by omega⟩
  · refine ⟨_, cap, ev, ⟨rfl, fun _ => ⟨g, 0, rfl, fun k t hk => ?_⟩⟩, h1, h2⟩
    have hkl := (List.getElem?_eq_some_iff.1 hk).1
    have hkv : k < vs.length := by rw [h.len]; exact hkl
    have hz : ((l.map (·.p)).zip vs)[k]? = some (t.p, vs[k]) := by
      rw [List.getElem?_zip_eq_some]
      exact ⟨by rw [List.getElem?_map, hk]; rfl, by rw [List.getElem?_eq_getElem hkv]⟩
    have hc : ∀ j, j < 2 → w.cell? ⟨g, 0 + k * 2 + j, none⟩ = [Value.int .u64 t.p, vs[k]][j]? := fun j hj => by
      have a := TC_at _ hz j hj
      rw [← h4, List.getElem?_take, if_pos (by omega)] at a
      rw [cell_of_row w g _ cur e (0, 0) hg, show 0 + k * 2 + j = 2 * k + j by omega, ← a]
      simp
    obtain ⟨q, c, e1, m1, m2, m3⟩ := IOwn.in (h.each k t vs[k] hk (by rw [List.getElem?_eq_getElem hkv])) (h.wf t (List.mem_of_getElem? hk)).ims
    refine ⟨q, c, hc 0 (by omega), ?_, m1, m2, m3⟩
    rw [hc 1 (by omega)]
    show some vs[k] = _
    rw [e1]
theorem XOwn.kept {e : TypeId} {w w' : World} {B : Nat} {v : Value} {l : List TX} {vs : List Value} {row : Option Nat} (h : XOwn e w B v l vs) (hg : w.grownBy w' row) (hv : v.ownBlock = none ∨ v.ownBlock ≠ row) (hu : ∀ u ∈ vs, u.ownBlock = none ∨ u.ownBlock ≠ row) : XOwn e w' B v l vs :=
  ⟨h.len, h.row.kept hg hv, fun k t u hk hku => (h.each k t u hk hku).kept hg (hu u (List.mem_of_getElem? hku)), h.wf⟩
theorem grown_of_below {V V' : World} (h : Below V.heap.size V V') : V.grownBy V' none := ⟨h.os, h.tape, h.output, h.size, fun k hk _ => h.block k hk⟩
theorem XOwn.later {e : TypeId} {w w' : World} {B : Nat} {v : Value} {l : List TX} {vs : List Value} (h : XOwn e w B v l vs) (hb : Below w.heap.size w w') : XOwn e w' B v l vs :=
  h.kept (grown_of_below hb) (by cases hh : v.ownBlock <;> simp) (fun u _ => by cases hh : u.ownBlock <;> simp)
theorem IOwn.later {w w' : World} {B : Nat} {v : Value} {l : List Im} (h : IOwn w B v l) (hb : Below w.heap.size w w') : IOwn w' B v l := h.kept (grown_of_below hb) (by cases hh : v.ownBlock <;> simp)
/-- the slices lie one behind the other, below a bound -/
def Rise (vs : List Value) (C : Nat) : Prop := vs.Pairwise (fun u v => ∀ g h, u.ownBlock = some g → v.ownBlock = some h → g < h) ∧ ∀ u ∈ vs, ∀ g, u.ownBlock = some g → g < C
theorem Rise.nil (C : Nat) : Rise [] C := ⟨List.Pairwise.nil, fun u h => by cases h⟩
theorem Rise.mono {vs : List Value} {C D : Nat} (h : Rise vs C) (hd : C ≤ D) : Rise vs D := ⟨h.1, fun u hu g hg => Nat.lt_of_lt_of_le (h.2 u hu g hg) hd⟩
theorem Rise.snoc {vs : List Value} {C D : Nat} (h : Rise vs C) {v : Value} (h1 : ∀ g, v.ownBlock = some g → C ≤ g) (h2 : ∀ g, v.ownBlock = some g → g < D) (hd : C ≤ D) : Rise (vs ++ [v]) D := by
  refine ⟨List.pairwise_append.2 ⟨h.1, List.pairwise_singleton _ _, fun u hu x hx g k hg hk => ?_⟩, fun u hu g hg => ?_⟩
  · rw [List.mem_singleton.1 hx] at hk
    exact Nat.lt_of_lt_of_le (h.2 u hu g hg) (h1 k hk)
  · rcases List.mem_append.1 hu with hu | hu
    · exact Nat.lt_of_lt_of_le (h.2 u hu g hg) hd
    · rw [List.mem_singleton.1 hu] at hg; exact h2 g hg
end Go.Proofs.YtefnkjajjidfaaaGreatDoor
