/-
  How transactions that came in are opened.
-/
import Derived.Test.YtefnkjajjidfaaaDoorPa
import Derived.Test.YtefnkjajjidfaaaDoorEa
import Derived.Test.YtefnkjajjidfaaaDoorRows
import Derived.Deep.Slices
import Derived.JoinedCond
namespace Go.Proofs.YtefnkjajjidfaaaDoor
open Go.ChangeShapes Go.WideShapes Go.ChangeAt Go.RowKit Go.Deep

namespace N
theorem laidK : laidOutB Tryd.prog = true := by kernel_rfl
theorem cellsU : Tryd.prog.cellsOf 5 = 1 := by kernel_rfl
theorem cellsVl : Tryd.prog.cellsOf 30 = 32 := by kernel_rfl
theorem cellsIm : Tryd.prog.cellsOf 32 = 33 := by kernel_rfl
theorem cellsIs : Tryd.prog.cellsOf 26 = 1 := by kernel_rfl
theorem cellsTx : Tryd.prog.cellsOf 28 = 2 := by kernel_rfl
theorem cells64 : Tryd.prog.cellsOf 25 = 1 := by kernel_rfl
theorem cells3' : Tryd.prog.cellsOf 3 = 1 := by kernel_rfl
def numOf : Value → Int | .int _ n => n | _ => 0
theorem openedV {H : Type} {enc : TypeId × Value → H} {W : World} {cs : List Value} {n : Nat} {y : DataW H × List MemPlace} (h : DataW.trod enc Tryd.prog W 0 (fun _ => true) true n 30 cs = some y) :
    ∃ xs, cs = U8 xs ∧ xs.length = 32 ∧ Bytes xs := by
  obtain ⟨ys, m, _, _, hl, hyl, hf⟩ := DataW.trod_array Tryd.underlying30 h
  rw [cellsVl] at hl
  have hg : ∀ i, i < 32 → ∃ x, cs[i]? = some (.int .u8 x) ∧ 0 ≤ x ∧ x ≤ 255 := by
    intro i hi
    have g := hf i hi
    rw [cellsU, Nat.mul_one, List.getElem?_eq_getElem (by omega)] at g
    obtain ⟨x, e, _, hw⟩ := DataW.trod_int Tryd.underlying5 g
    exact ⟨x, drop_one _ _ _ e, bounds_u8 hw⟩
  refine ⟨cs.map numOf, ?_, by simp [hl], ?_⟩
  · apply List.ext_getElem?
    intro i
    by_cases hi : i < 32
    · obtain ⟨x, e, _⟩ := hg i hi
      simp [e, numOf]
    · rw [List.getElem?_eq_none (by omega), List.getElem?_eq_none (by simp; omega)]
  · intro x hx
    obtain ⟨v, hv, rfl⟩ := List.mem_map.1 hx
    obtain ⟨i, hi, rfl⟩ := List.getElem_of_mem hv
    obtain ⟨x, e, h0, h1⟩ := hg i (by omega)
    rw [List.getElem?_eq_getElem hi] at e
    have := Option.some.inj e
    rw [this]
    simp only [numOf]
    omega
theorem slice_of {H : Type} {enc : TypeId × Value → H} {W : World} {t e : TypeId} {k : Nat} {c : Value} {y : DataW H × List MemPlace} (ht : Tryd.prog.underlying t = some (.slice e)) (h : DataW.trod enc Tryd.prog W 0 (fun _ => true) true k t [c] = some y) :
    ∃ a l cp, c = .slice a l cp := by
  rcases open_slice ht h with ⟨h0, _⟩ | ⟨a, len, cap, _, _, _, _, h0, _⟩
  · simp only [List.cons.injEq, and_true] at h0
    exact ⟨_, _, _, h0⟩
  · simp only [List.cons.injEq, and_true] at h0
    exact ⟨_, _, _, h0⟩
theorem one_at {α : Type} (l : List α) (k : Nat) (h : k < l.length) : (l.drop k).take 1 = [l[k]] := by
  rw [List.drop_eq_getElem_cons h, List.take_succ_cons, List.take_zero]

theorem one_im {H : Type} {enc : TypeId × Value → H} {W : World} {cs : List Value} {n : Nat} {y : DataW H × List MemPlace} (hd : DataW.trod enc Tryd.prog W 0 (fun _ => true) true n 32 cs = some y) : ∃ i : Im, cs = icells i ∧ i.Wf := by
  obtain ⟨xs, k, _, hy, hl, hxl, hf⟩ := DataW.trod_struct Tryd.underlying32 hd
  rw [cellsIm] at hl
  have hxl2 : xs.length = 2 := hxl
  match xs, hxl2 with
  | [y0, y1], _ =>
    have g0 : DataW.trod enc Tryd.prog W 0 (fun _ => true) true k 3 ((cs.drop 0).take (Tryd.prog.cellsOf 3)) = some y0 := hf 0 _ rfl
    have g1 : DataW.trod enc Tryd.prog W 0 (fun _ => true) true k 30 ((cs.drop 1).take (Tryd.prog.cellsOf 30)) = some y1 := hf 1 _ rfl
    rw [cells3'] at g0
    rw [cellsVl] at g1
    obtain ⟨b, e0, _, w0⟩ := DataW.trod_int Tryd.underlying3 g0
    obtain ⟨v, e1, hv, hvb⟩ := openedV g1
    refine ⟨⟨b, v⟩, ?_, ⟨bounds_i64 w0, hv, hvb⟩⟩
    have h1 : cs.take 1 = [.int .i64 b] := e0
    have h2 : cs.drop 1 = U8 v := by rw [← e1, List.take_of_length_le (by rw [List.length_drop]; omega)]
    rw [← List.take_append_drop 1 cs, h1, h2]; rfl
theorem bulk_one {H : Type} (d : DataW H) : 1 ≤ Rows.uptoBulk d := by
  cases d with
  | lit l => cases l <;> simp [Rows.uptoBulk]
  | nil => simp [Rows.uptoBulk]
  | ptr d => simp [Rows.uptoBulk]
  | slice elems spare => simp [Rows.uptoBulk]
  | agg parts => simp [Rows.uptoBulk]
  | iface t d => simp [Rows.uptoBulk]
  | map entries => simp [Rows.uptoBulk]
  | held h => simp [Rows.uptoBulk]
theorem bulk_len {H : Type} : ∀ (l : List (DataW H)), l.length ≤ Rows.uptoBulkAll l
  | [] => by simp [Rows.uptoBulkAll]
  | x :: r => by have := bulk_one x; have := bulk_len r; simp only [Rows.uptoBulkAll, List.length_cons]; omega
theorem bulk_append {H : Type} : ∀ (l m : List (DataW H)), Rows.uptoBulkAll (l ++ m) = Rows.uptoBulkAll l + Rows.uptoBulkAll m
  | [], m => by simp [Rows.uptoBulkAll]
  | x :: r, m => by have := bulk_append r m; simp only [List.cons_append, Rows.uptoBulkAll]; omega
theorem openedIms {H : Type} {enc : TypeId × Value → H} {W : World} {fuel : Nat} {a : Option Addr} {len cap : Nat} {y : DataW H × List MemPlace} (hf : DataW.trod enc Tryd.prog W 0 (fun _ => true) true fuel 26 [.slice a len cap] = some y) :
    ∃ l, MIn W a len l ∧ len ≤ cap ∧ cap ≤ maxLen ∧ len ≤ Rows.uptoBulk y.1 := by
  rcases open_slice Tryd.underlying26 hf with ⟨hcs, _⟩ | ⟨x, l, c, m, n, D, Pl, hcs, _, hl, hm, hmm, hx, hcell⟩
  · simp only [List.cons.injEq, Value.slice.injEq, and_true] at hcs
    obtain ⟨rfl, rfl, rfl⟩ := hcs
    exact ⟨[], MIn.nil _ _, Nat.le_refl _, Nat.zero_le _, Nat.zero_le _⟩
  · simp only [List.cons.injEq, Value.slice.injEq, and_true] at hcs
    obtain ⟨rfl, rfl, rfl⟩ := hcs
    rw [cellsIm] at hcell
    have hlm : len ≤ m := by rw [hmm]; simpa using hl
    have each : ∀ i, i < len → ∃ t : Im, (∀ (j : Nat) v, (icells t)[j]? = some v → W.cell? ((x.add (i * 33)).add j) = some v) ∧ t.Wf := by
      intro i hi
      obtain ⟨cs', h1, h2⟩ := hcell i (by omega)
      obtain ⟨t, rfl, ht⟩ := one_im h2
      refine ⟨t, fun j v hv => ?_, ht⟩
      have hs := World.cells?_some h1
      have hj : j < 33 := by have := (List.getElem?_eq_some_iff.1 hv).1; rw [icells_len ht.len] at this; exact this
      rw [hs.2.2 j hj]; exact hv
    have wf : ImsWf ((List.range len).map fun i => if h : i < len then (each i h).choose else im0) := by
      intro t ht
      obtain ⟨i, hi, rfl⟩ := List.mem_map.1 ht
      have hi' : i < len := List.mem_range.1 hi
      simp only [hi', dif_pos]
      exact (each i hi').choose_spec.2
    refine ⟨(List.range len).map fun i => if h : i < len then (each i h).choose else im0, ⟨by simp, wf, fun h0 => ?_⟩, hl, hm, ?_⟩
    · obtain ⟨b, o, s⟩ := x
      have hc0 := (each 0 h0).choose_spec.1 0 _ rfl
      obtain rfl : s = none := by simpa [Addr.add] using World.cell?_spot hc0
      have e1 : ∀ i j, ((⟨b, o, none⟩ : Addr).add (i * 33)).add j = ⟨b, o + i * 33 + j, none⟩ := fun i j => by rw [add_plain]; exact add_plain _ _ _
      refine ⟨b, o, rfl, fun j v hv => ?_⟩
      have hjl := (List.getElem?_eq_some_iff.1 hv).1
      rw [IC_len wf, List.length_map, List.length_range] at hjl
      have hi' : j / 33 < len := by omega
      have hk : ((List.range len).map fun i => if h : i < len then (each i h).choose else im0)[j / 33]? = some (each (j / 33) hi').choose := by
        rw [List.getElem?_map, List.getElem?_range hi']
        simp only [Option.map_some, hi', dif_pos]
      have hj2 : 33 * (j / 33) + j % 33 = j := Nat.div_add_mod j 33
      rw [← hj2, IC_at wf hk (j % 33) (Nat.mod_lt _ (by omega))] at hv
      have := (each (j / 33) hi').choose_spec.1 (j % 33) v hv
      rw [e1] at this
      rw [show o + j = o + j / 33 * 33 + j % 33 by omega]; exact this
    · rw [hx]
      have := bulk_len ((List.range len).map D)
      simp only [List.length_map, List.length_range] at this
      simp only [Rows.uptoBulk]; omega
/-- one of them -/
structure TxOk (W : World) (t : TX) (q : Option Addr) (c : Nat) : Prop where
  mi : MIn W q t.ims.length t.ims
  l1 : t.ims.length ≤ c
  l2 : c ≤ maxLen
  p : u64 t.p
theorem one_rtx {H : Type} {enc : TypeId × Value → H} {W : World} {cs : List Value} {n : Nat} {y : DataW H × List MemPlace} (hd : DataW.trod enc Tryd.prog W 0 (fun _ => true) true n 28 cs = some y) : ∃ (t : TX) (q : Option Addr) (c : Nat), cs = [.int .u64 t.p, .slice q t.ims.length c] ∧ TxOk W t q c ∧ t.ims.length ≤ Rows.uptoBulk y.1 := by
  obtain ⟨xs, k, _, hy, hl, hxl, hf⟩ := DataW.trod_struct Tryd.underlying28 hd
  rw [cellsTx] at hl
  have hxl2 : xs.length = 2 := hxl
  match xs, hxl2 with
  | [y0, y1], _ =>
    have g0 : DataW.trod enc Tryd.prog W 0 (fun _ => true) true k 25 ((cs.drop 0).take (Tryd.prog.cellsOf 25)) = some y0 := hf 0 _ rfl
    have g1 : DataW.trod enc Tryd.prog W 0 (fun _ => true) true k 26 ((cs.drop 1).take (Tryd.prog.cellsOf 26)) = some y1 := hf 1 _ rfl
    rw [cells64] at g0
    rw [cellsIs, one_at cs 1 (by omega)] at g1
    obtain ⟨p, e0, _, w0⟩ := DataW.trod_int Tryd.underlying25 g0
    obtain ⟨q, len, c, e1⟩ := slice_of Tryd.underlying26 g1
    rw [e1] at g1
    obtain ⟨l, mi, l1, l2, hb⟩ := openedIms g1
    have hll := mi.len
    subst hll
    simp only [List.map_cons, List.map_nil] at hy
    have b0 := bounds_u64 w0
    refine ⟨⟨p, l⟩, q, c, ?_, ⟨mi, l1, l2, by unfold u64; omega⟩, ?_⟩
    · have h1 : cs.take 1 = [.int .u64 p] := e0
      have h2 : cs.drop 1 = [.slice q l.length c] := by rw [← e1, ← one_at cs 1 (by omega), List.take_of_length_le (by rw [List.length_drop]; omega)]
      rw [← List.take_append_drop 1 cs, h1, h2]; rfl
    · rw [hy]
      simp only [Rows.uptoBulk, Rows.uptoBulkAll]
      show l.length ≤ _
      omega
theorem flat_bulk {H : Type} (f : Nat → TX) (D : Nat → DataW H) : ∀ n, (∀ i, i < n → (f i).ims.length ≤ Rows.uptoBulk (D i)) → (flat ((List.range n).map f)).length ≤ Rows.uptoBulkAll ((List.range n).map D)
  | 0, _ => by simp [flat]
  | n + 1, h => by
    have ih := flat_bulk f D n (fun i hi => h i (by omega))
    have hn := h n (by omega)
    rw [List.range_succ, List.map_append, List.map_append, List.map_singleton, List.map_singleton, flat_snoc, List.length_append, bulk_append]
    simp only [Rows.uptoBulkAll]; omega
theorem openedTxs {H : Type} {enc : TypeId × Value → H} {W : World} {a : Option Addr} {len cap : Nat} {d : DataW H} {p : List MemPlace} (h : DataW.Trod enc Tryd.prog W 0 (fun _ => true) true 22 (.slice a len cap) d p) :
    ∃ txs, XIn W a len txs ∧ TxsWf txs ∧ len ≤ Rows.uptoBulk d ∧ (flat txs).length ≤ Rows.uptoBulk d := by
  obtain ⟨fuel, hf⟩ := h
  rcases open_slice Tryd.underlying22 hf with ⟨hcs, _⟩ | ⟨x, l, c, m, n, D, Pl, hcs, _, hl, hm, hmm, hx, hcell⟩
  · simp [Value.cells] at hcs
    obtain ⟨rfl, rfl, rfl⟩ := hcs
    exact ⟨[], XIn.nil _ _, TxsWf.nil, Nat.zero_le _, Nat.zero_le _⟩
  · simp [Value.cells] at hcs
    obtain ⟨rfl, rfl, rfl⟩ := hcs
    rw [cellsTx] at hcell
    simp only [Prod.mk.injEq] at hx
    have hlm : len ≤ m := by rw [hmm]; simpa using hl
    have each : ∀ i, i < len → ∃ t : TX, (∃ (q : Option Addr) (c : Nat), (∀ (j : Nat) v, [Value.int .u64 t.p, .slice q t.ims.length c][j]? = some v → W.cell? ((x.add (i * 2)).add j) = some v) ∧ TxOk W t q c) ∧ t.ims.length ≤ Rows.uptoBulk (D i) := by
      intro i hi
      obtain ⟨cs', h1, h2⟩ := hcell i (by omega)
      obtain ⟨t, q, c, rfl, ht, hb⟩ := one_rtx h2
      refine ⟨t, ⟨q, c, fun j v hv => ?_, ht⟩, hb⟩
      have hs := World.cells?_some h1
      have hj : j < 2 := (List.getElem?_eq_some_iff.1 hv).1
      rw [hs.2.2 j hj]; exact hv
    have hfb := flat_bulk (fun i => if h : i < len then (each i h).choose else ⟨0, []⟩) D len (fun i hi => by simp only [hi, dif_pos]; exact (each i hi).choose_spec.2)
    have hlb := bulk_len ((List.range len).map D)
    simp only [List.length_map, List.length_range] at hlb
    refine ⟨(List.range len).map fun i => if h : i < len then (each i h).choose else ⟨0, []⟩, ⟨by simp, fun h0 => ?_⟩, fun t ht => ?_, ?_, ?_⟩
    · obtain ⟨b, o, s⟩ := x
      obtain ⟨q0, c0, h1, _⟩ := (each 0 h0).choose_spec.1
      have hc0 := h1 0 _ rfl
      obtain rfl : s = none := by simpa [Addr.add] using World.cell?_spot hc0
      have e1 : ∀ i j, ((⟨b, o, none⟩ : Addr).add (i * 2)).add j = ⟨b, o + i * 2 + j, none⟩ := fun i j => by rw [add_plain]; exact add_plain _ _ _
      refine ⟨b, o, rfl, fun k t ht => ?_⟩
      have hk' : k < len := by have := (List.getElem?_eq_some_iff.1 ht).1; simpa using this
      rw [List.getElem?_map, List.getElem?_range hk'] at ht
      simp only [Option.map_some, hk', dif_pos, Option.some.injEq] at ht
      subst ht
      obtain ⟨q, c, h2, h3⟩ := (each k hk').choose_spec.1
      have a0 := h2 0 _ rfl
      have a1 := h2 1 _ rfl
      rw [e1] at a0 a1
      exact ⟨q, c, a0, a1, h3.mi, h3.l1, h3.l2⟩
    · obtain ⟨i, hi, rfl⟩ := List.mem_map.1 ht
      have hi' : i < len := List.mem_range.1 hi
      simp only [hi', dif_pos]
      obtain ⟨q, c, h2, h3⟩ := (each i hi').choose_spec.1
      exact ⟨h3.p, h3.mi.wf⟩
    · rw [hx.1]; simp only [Rows.uptoBulk]; omega
    · rw [hx.1]; simp only [Rows.uptoBulk]; omega
end N
/-- a row with a condition of its own, over listed tables -/
theorem returns_cond_and {H : Type} {enc : TypeId × Value → H} {a : Assume} {C : Checked} {os : Os} {f : FuncId} {fn : Func} {s : OpenSpec} {k : (H : Type) → List (DataW H) → Bool} (hk : s.cond = some k) {F : Stop.Interp} {conds : List PathCond} {apart fresh handsOn again : Bool} {X : World → Array Value → Prop}
    (hX : ∀ (w w' : World) (args : Array Value), w.heap = w'.heap → X w args → X w' args)
    (own : ownKnob C.prog.godebug = none) (started : os.Started) (noInit : C.prog.inits.idxOf? f = none) (hfn : C.prog.funcs[f]? = some fn)
    (witness : ∃ (w : World) (tape : Tape) (i : Input), w.os = os ∧ (w.forCall tape i).Shaped C.prog ∧ i.vars = [] ∧ Input.okWide C.prog (w.forCall tape i) .any w.heap.size f i ∧
      ((s.pre enc C.prog fn conds apart (w.forCall tape i).memory i.args ∧ X (w.forCall tape i).memory i.args) ∧ sizedMet enc C.prog fn s apart (w.forCall tape i).memory i.args) ∧ a.holds C.prog (lone (Frame.enter C.prog f i.args .normal) [] (w.forCall tape i)))
    (contract : ∀ (W : World) (base : Nat) (args : Array Value) (ds gs : List (DataW H)) (before : List MemPlace),
      (∀ (j : Nat) t v, fn.params[j]? = some t → args[j]? = some v → Value.okWide C.prog W .any base t v) →
      DataW.Whole enc C.prog fn.params.toList s.vars apart W args.toList ds gs before → k H (ds ++ gs) = true → X W args →
      Calls C.prog f args W fun e W' => ∃ v, e = .returned v ∧ (s.at F).post enc C.prog fn apart fresh handsOn again W args v W') :
    ReturnsInHanded a C os f .any (fun w args => (s.pre enc C.prog fn conds apart w args ∧ X w args) ∧ sizedMet enc C.prog fn s apart w args) ((s.at F).post enc C.prog fn apart fresh handsOn again) := by
  refine returnsInHanded_of_calls own started noInit witness ?_
  intro w tape i _ _ _ hok hpre _
  obtain ⟨_, _, _, fn', hfn', _, _, _, _, hval⟩ := hok
  have e : fn' = fn := Option.some.inj (hfn'.symm.trans hfn)
  subst e
  obtain ⟨ds, gs, before, hw, hc, hkk⟩ := (OpenSpec.pre_some hk conds apart _ _).1 hpre.1.1
  have hw' := DataW.Whole.of_heap (w' := w.forCall tape i) (by rfl) hw
  refine (contract (w.forCall tape i) w.heap.size i.args ds gs before hval hw' hkk (hX _ _ _ (by rfl) hpre.1.2)).mono fun e W' ⟨v, he, hp⟩ => ?_
  subst he
  exact ChangeSpec.post_blind hp
theorem witness_cond {H : Type} {enc : TypeId × Value → H} {C : Checked} {os : Os} {f : FuncId} {fn : Func} {s : OpenSpec} {k : (H : Type) → List (DataW H) → Bool} (hk : s.cond = some k) {conds : List PathCond} {apart : Bool} {X : World → Array Value → Prop} (w0 : World) (args : Array Value) (fuel : Nat) (hos : w0.os = os)
    (hsh : (w0.forCall (fun _ _ => 0) ⟨#[], args, []⟩).Shaped C.prog)
    (hok : Input.okWideB C.prog (w0.forCall (fun _ _ => 0) ⟨#[], args, []⟩) f ⟨#[], args, []⟩ = true)
    {x : List (DataW H) × List (DataW H) × List MemPlace} (hx : DataW.whole enc C.prog (w0.forCall (fun _ _ => 0) ⟨#[], args, []⟩).memory fn.params.toList s.vars apart args.toList fuel = some x)
    (hconds : conds.all (PathCond.test C.prog ⟨fn.params.toList, x.1, s.bare.plain.varTypes C.prog, x.2.1⟩) = true) (hkk : k H (x.1 ++ x.2.1) = true)
    (hsz : s.bare.sizedB enc C.prog fn apart (w0.forCall (fun _ _ => 0) ⟨#[], args, []⟩).memory args fuel = true)
    (hX : X (w0.forCall (fun _ _ => 0) ⟨#[], args, []⟩).memory args) :
    ∃ (w : World) (tape : Tape) (i : Input), w.os = os ∧ (w.forCall tape i).Shaped C.prog ∧ i.vars = [] ∧ Input.okWide C.prog (w.forCall tape i) .any w.heap.size f i ∧
      ((s.pre enc C.prog fn conds apart (w.forCall tape i).memory i.args ∧ X (w.forCall tape i).memory i.args) ∧ sizedMet enc C.prog fn s apart (w.forCall tape i).memory i.args) ∧ ({} : Assume).holds C.prog (lone (Frame.enter C.prog f i.args .normal) [] (w.forCall tape i)) :=
  ⟨w0, fun _ _ => 0, ⟨#[], args, []⟩, hos, hsh, (Input.okWide_of_okWideB (base := 0) hok).1, (Input.okWide_of_okWideB hok).2, ⟨⟨(OpenSpec.pre_some hk conds apart _ _).2 ⟨x.1, x.2.1, x.2.2, DataW.Whole_of_whole hx, hconds, hkk⟩, hX⟩, sizedMet_of_sizedB hsz⟩, by
    simp only [Assume.holds]
    exact ⟨by simp, by simp, fun _ => Modest.zero, by simp, by simp⟩⟩
end Go.Proofs.YtefnkjajjidfaaaDoor
