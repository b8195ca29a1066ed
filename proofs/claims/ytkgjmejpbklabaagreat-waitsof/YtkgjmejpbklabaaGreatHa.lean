/-
  Layer 15: maps by tickets; Free.
-/
import Derived.Test.YtkgjmejpbklabaaGreatN11
import Derived.Maps.OwnSet
import Derived.BigQuiet
namespace Go.Proofs.YtkgjmejpbklabaaGreat
open Go.RowKit
open Go.Maps (Keyed)
theorem keyU : Keyed Tryz.prog 44 := Maps.int_keyed Tryz.underlying44
abbrev UW (t : Int) : Prop := (Lit.int .u64 t).wf = true
theorem UW.key {t : Int} (h : UW t) : keyOf Tryz.prog 44 (.int .u64 t) = some (.int .u64 t) := Maps.keyOf_int_mk Tryz.underlying44 h
theorem uw_iff {t : Int} : UW t ↔ 0 ≤ t ∧ t ≤ 18446744073709551615 := by
  have e1 : IntKind.u64.min = 0 := by decide
  have e2 : IntKind.u64.max = 18446744073709551615 := by decide
  simp only [UW, Lit.wf, e1, e2, Bool.and_eq_true, decide_eq_true_eq]
/-- what stands in the map: a value itself -/
def vElem (v : Value) : Option (DataW Value × List MemPlace) := some (.held v, [])
/-- block b is a map of s keys that reads as m -/
def VMp (z : Value) (w : World) (b n s : Nat) (m : Int → Option Value) : Prop := ∃ D : DataW Value, w.ownsMap Tryz.prog 44 vElem b n D ∧ Maps.size D = s ∧ ∀ t, UW t → Maps.has D (.int .u64 t) = (m t).isSome ∧ D.atKey (.int .u64 t) (.held z) = .held ((m t).getD z)
theorem VMp.typ {z : Value} {w : World} {b n s : Nat} {m : Int → Option Value} (h : VMp z w b n s m) : ∃ es clock, w.heap[b]? = some (.map es clock) := by
  obtain ⟨D, ⟨es, clock, hb, _⟩, _⟩ := h
  exact ⟨es, clock, hb⟩
theorem VMp.lt {z : Value} {w : World} {b n s : Nat} {m : Int → Option Value} (h : VMp z w b n s m) : b < w.heap.size := by
  obtain ⟨es, clock, hb⟩ := h.typ
  exact (Array.getElem?_eq_some_iff.1 hb).1
theorem VMp.keep {z : Value} {w w' : World} {b n s : Nat} {m : Int → Option Value} (h : VMp z w b n s m) (hk : w'.heap[b]? = w.heap[b]?) : VMp z w' b n s m := by
  obtain ⟨D, ⟨es, clock, hb, r⟩, hD⟩ := h
  exact ⟨D, ⟨es, clock, hk.trans hb, r⟩, hD⟩
theorem VMp.later {z : Value} {w w' : World} {b n s : Nat} {m : Int → Option Value} (h : VMp z w b n s m) (hb : RowKit.Below w.heap.size w w') : VMp z w' b n s m := h.keep (hb.block b h.lt)
theorem VMp.far {S : Nat → Prop} {z : Value} {w w' : World} {b n s : Nat} {m : Int → Option Value} (h : VMp z w b n s m) (hb : Kept S w w') (hS : ¬ S b) : VMp z w' b n s m := h.keep (hb.block b h.lt hS)
theorem VMp.made (z : Value) (w : World) : VMp z (w.alloc (.map #[] 0)) w.heap.size 0 0 (fun _ => none) := ⟨_, World.ownsMap_made w _ _ _, rfl, fun _ _ => ⟨rfl, rfl⟩⟩
theorem VMp.run_look {z : Value} {mt et : TypeId} (hu : Tryz.prog.underlying mt = some (.map 44 et)) {w : World} (hz : (zeroValue et).run Tryz.prog w = .ok z w) {b n s : Nat} {m : Int → Option Value} (h : VMp z w b n s m) {t : Int} (ht : UW t) :
    (Instr.lookup mt (.map (some b)) (.int .u64 t) true).run Tryz.prog w = .ok (.tuple #[(m t).getD z, .bool (m t).isSome]) w := by
  obtain ⟨D, ho, -, hD⟩ := h
  obtain ⟨v, ps, hrun, hv⟩ := ho.look_ok keyU hu hz (zd := .held z) (zp := []) rfl ht.key
  rw [(hD t ht).2] at hv
  simp only [vElem, Option.some.injEq, Prod.mk.injEq, DataW.held.injEq] at hv
  rw [hrun, hv.1, (hD t ht).1]
theorem VMp.run_get {z : Value} {mt et : TypeId} (hu : Tryz.prog.underlying mt = some (.map 44 et)) {w : World} (hz : (zeroValue et).run Tryz.prog w = .ok z w) {b n s : Nat} {m : Int → Option Value} (h : VMp z w b n s m) {t : Int} (ht : UW t) :
    (Instr.lookup mt (.map (some b)) (.int .u64 t) false).run Tryz.prog w = .ok ((m t).getD z) w := by
  obtain ⟨D, ho, -, hD⟩ := h
  obtain ⟨v, ps, hrun, hv⟩ := ho.lookup keyU hu hz (zd := .held z) (zp := []) rfl ht.key
  rw [(hD t ht).2] at hv
  simp only [vElem, Option.some.injEq, Prod.mk.injEq, DataW.held.injEq] at hv
  rw [hrun, hv.1]
theorem VMp.run_put {z : Value} {mt et : TypeId} (hu : Tryz.prog.underlying mt = some (.map 44 et)) {w : World} {b n s : Nat} {m : Int → Option Value} (h : VMp z w b n s m) (hn : n < 10000) {t : Int} (ht : UW t) (v : Value) :
    ∃ w', (Instr.mapUpdate mt (.map (some b)) (.int .u64 t) v).run Tryz.prog w = .ok () w' ∧ VMp z w' b (n + 1) (if (m t).isSome then s else s + 1) (fun u => if u = t then some v else m u) ∧ Kept (· = b) w w' := by
  obtain ⟨D, ho, hs, hD⟩ := h
  have hml : 10000 ≤ maxLen := by decide
  obtain ⟨w', hrun, h1, h2⟩ := ho.store (val := v) (d := .held v) (ps := []) keyU hu (by omega) ht.key rfl
  refine ⟨w', hrun, ⟨_, h1, ?_, fun u hu => ?_⟩, kept_grown h2.grown⟩
  · rw [Maps.size_put (ho.tidy keyU), (hD t ht).1, hs]
  · dsimp only
    by_cases e : u = t
    · subst e
      rw [if_pos rfl, Maps.has_put_same ho.isMap (keyU.key ht.key), Maps.atKey_put_same ho.isMap (keyU.key ht.key)]
      exact ⟨rfl, rfl⟩
    · have hne : (Lit.int .u64 u) ≠ Lit.int .u64 t := fun e2 => e (by injection e2)
      rw [if_neg e, Maps.has_put_other hne, Maps.atKey_put_other hne]
      exact hD u hu
theorem VMp.run_len {z : Value} {mt et : TypeId} (hu : Tryz.prog.underlying mt = some (.map 44 et)) {w : World} {b n s : Nat} {m : Int → Option Value} (h : VMp z w b n s m) (ty : TypeId) :
    (Builtin.len_ #[mt] ty #[.map (some b)]).run Tryz.prog w = .ok (.int .i64 (s : Int)) w := by
  obtain ⟨D, ho, hs, -⟩ := h
  rw [ho.len hu, hs]

/-! ### Free -/
abbrev unitV : Value := .agg #[]
theorem zeroS (w : World) : (zeroValue 81).run Tryz.prog w = .ok unitV w := by kernel_rfl
/-- those that wait -/
def wset (L : List Eg) (t : Int) : Option Value := if L.any (fun e => e.f == t) then some unitV else none
theorem wset_snoc (L : List Eg) (e : Eg) : (fun u => if u = e.f then some unitV else wset L u) = wset (L ++ [e]) := by
  funext u
  unfold wset
  rw [List.any_append]
  by_cases h : u = e.f
  · simp [h]
  · have : (e.f == u) = false := by simpa using fun h2 => h h2.symm
    simp [h, this]
/-- those that wait for nobody -/
def freS (es : List Eg) (tk : List Int) : List Int := tk.filter fun t => !(es.any fun e => e.f == t)
theorem freS_take {es : List Eg} {tk : List Int} {i : Nat} (hi : i < tk.length) : freS es (tk.take (i + 1)) = freS es (tk.take i) ++ (if es.any (fun e => e.f == tk.getD i 0) then [] else [tk.getD i 0]) := by
  have e1 : tk.take (i + 1) = tk.take i ++ [tk.getD i 0] := by
    rw [List.take_add_one, List.getElem?_eq_getElem hi]
    simp [List.getD, List.getElem?_eq_getElem hi]
  unfold freS
  rw [e1, List.filter_append]
  generalize tk.getD i 0 = x
  cases h : es.any (fun e => e.f == x)
  · rw [List.filter_cons, List.filter_nil, h]; rfl
  · rw [List.filter_cons, List.filter_nil, h]; rfl
theorem freS_len (es : List Eg) (tk : List Int) : (freS es tk).length ≤ tk.length := List.length_filter_le _ _
theorem makeS (w : World) (n : Nat) : (Instr.makeMap 80 (some (.int .i64 (n : Int)))).run Tryz.prog w = .ok (.map (some w.heap.size)) (w.alloc (.map #[] 0)) := by
  simp [Instr.makeMap, run_underlying Tryz.underlying80, asInt, asIntOf, Result.andThen]
theorem es_get {es : List Eg} {n j : Nat} (hl : es.length = n) (hj : j < n) : es.take (j + 1) = es.take j ++ [es.getD j noEg] ∧ es.getD j noEg ∈ es := by
  have h : j < es.length := by omega
  refine ⟨?_, ?_⟩
  · rw [List.take_add_one, List.getElem?_eq_getElem h]
    simp [List.getD, List.getElem?_eq_getElem h]
  · rw [List.getD, List.getElem?_eq_getElem h]; exact List.getElem_mem _
set_option maxHeartbeats 2000000 in
set_option maxRecDepth 100000 in
theorem free_at {w : World} {p q : Option Addr} {n c m d : Nat} {es : List Eg} {tk : List Int} (hE : EIn w p n es) (hz : n ≤ 9000) (hw : ∀ e ∈ es, UW e.f) (hU : UIn w q m tk) (hm : m ≤ 9000) (ht : ∀ t ∈ tk, UW t) :
    Calls Tryz.prog 11 #[.slice p n c, .slice q m d] w fun e w' => ∃ r cr, e = .returned (.slice r (freS es tk).length cr) ∧ w'.ownsRow w.heap.size 44 1 (.slice r (freS es tk).length cr) (freS es tk).length (U64 (freS es tk)) ∧ RowKit.Below w.heap.size w w' := by
  have hmk := fun w => makeS w n
  have HE : Hid (∀ W, RowKit.Below w.heap.size w W → EIn W p n es) := fun W hW => hE.later hW
  have HU : Hid (∀ W, RowKit.Below w.heap.size w W → UIn W q m tk) := fun W hW => hU.later hW
  have HL : Hid (es.length = n) := hE.len
  have HM : Hid (tk.length = m) := hU.len
  have HW : Hid (∀ e ∈ es, UW e.f) := hw
  have HT : Hid (∀ t ∈ tk, UW t) := ht
  have HMP0 : Hid (VMp unitV (w.alloc (.map #[] 0)) w.heap.size 0 0 (wset [])) := by
    have := VMp.made unitV w
    exact this
  clear hE hU hw ht
  go_enter Tryz.func11, Tryz.ntmps11
  go_wp2_with fail
  have HB0 : Hid (RowKit.Below w.heap.size w (w.alloc (.map #[] 0))) := below_alloc w _
  clear hmk
  go_loopw [18] (fun v W => ∃ (j s : Nat), v = .int .i64 (j : Int) ∧ j ≤ n ∧ Hid (RowKit.Below w.heap.size w W) ∧ Hid (VMp unitV W w.heap.size j s (wset (es.take j)))) (fun v _ => n - (intV v).toNat)
  case atStart => exact ⟨0, 0, rfl, by omega, HB0, by simpa using HMP0⟩
  case round =>
    obtain ⟨j, s, rfl, hj, HB, HMP⟩ := hrel
    by_cases hjn : j < n
    · obtain ⟨eb, eo, rfl, hcs⟩ := (HE.out wr HB.out).cells (by omega)
      obtain ⟨h1, h2, h3, h4⟩ := hcs j hjn
      obtain ⟨hta, hme⟩ := es_get HL.out hjn
      have hwf := HW.out _ hme
      have hput := VMp.run_put (z := unitV) Tryz.underlying80 (HMP.out.later (below_alloc wr (Obj.cells #[Value.int .u64 (es.getD j noEg).f, .int .u64 (es.getD j noEg).t, .int .i64 (es.getD j noEg).y, .int .i64 (es.getD j noEg).b] 46))) (by omega) hwf unitV
      obtain ⟨w2, hrun, hmp2, hk2⟩ := hput
      rw [wset_snoc, ← hta] at hmp2
      have HMP2 : Hid (VMp unitV w2 w.heap.size (j + 1) _ (wset (es.take (j + 1)))) := hmp2
      have HB2 : Hid (RowKit.Below w.heap.size w w2) := hk2.into (below_then HB.out (below_alloc _ _)) (fun b hb e => by omega) (Nat.le_refl _)
      clear hcs hta hme hwf hmp2 hk2
      generalize es.getD j noEg = ed at *
      obtain ⟨ef, et, ey, ebk⟩ := ed
      simp only at h1 h2 h3 h4 hrun
      go_wp2_with fail
      go_roundw
      case rel => exact ⟨j + 1, _, rfl, by omega, HB2, HMP2⟩
      case measure => simp [intV]; omega
    · obtain rfl : j = n := by omega
      have HMS : Hid (VMp unitV wr w.heap.size j s (wset es)) := by
        have := HMP.out
        rw [← HL.out, List.take_length] at this
        rw [← HL.out]; exact this
      clear HMP HMP0 HB0
      go_wp2_with fail
      go_loopw [8, 29] (fun v8 v W => ∃ (r : Option Addr) (cr i : Nat), v8 = .slice r (freS es (tk.take i)).length cr ∧ v = .int .i64 (i : Int) ∧ i ≤ m ∧ Hid (RowKit.Below w.heap.size w W) ∧ Hid (VMp unitV W w.heap.size j s (wset es)) ∧ Hid (W.ownsRow (w.heap.size + 1) 44 1 (.slice r (freS es (tk.take i)).length cr) (freS es (tk.take i)).length (U64 (freS es (tk.take i))))) (fun v8 v _ => m - (intV v).toNat)
      case atStart => exact ⟨none, 0, 0, rfl, rfl, by omega, HB, HMS, World.ownsRow_nil _ _ _ _⟩
      case round =>
        obtain ⟨r, cr, i, rfl, rfl, hi, HB1, HM1, HO1⟩ := hrel
        by_cases him : i < m
        · obtain ⟨ub, uo, rfl, hcs⟩ := (HU.out wr HB1.out).cells (by omega)
          have hci := hcs i him
          have hft := freS_take (es := es) (tk := tk) (i := i) (by have := HM.out; omega)
          have hut : UW (tk.getD i 0) := HT.out _ (by rw [List.getD, List.getElem?_eq_getElem (by have := HM.out; omega)]; exact List.getElem_mem _)
          have hlk := HM1.out.run_look Tryz.underlying80 (zeroS _) hut
          have hol : (freS es (tk.take i)).length ≤ 9000 := by
            have := freS_len es (tk.take i)
            rw [List.length_take] at this
            omega
          have HTK : Hid (freS es (tk.take (i + 1)) = freS es (tk.take i) ++ (if es.any (fun e => e.f == tk.getD i 0) then [] else [tk.getD i 0])) := hft
          have hws : wset es (tk.getD i 0) = if es.any (fun e => e.f == tk.getD i 0) then some unitV else none := rfl
          rw [hws] at hlk
          clear hcs hft hut hws
          obtain ⟨fl, hfl⟩ : ∃ fl, freS es (tk.take i) = fl := ⟨_, rfl⟩
          rw [hfl] at hol HO1 HTK ⊢
          clear hfl
          generalize tk.getD i 0 = x at *
          cases hany : es.any (fun e => e.f == x) with
          | true =>
            rw [hany] at hlk HTK
            simp only [if_true, Option.getD_some, Option.isSome_some, List.append_nil] at hlk HTK
            clear hany
            go_wp2_with fail
            go_roundw
            case rel =>
              refine ⟨r, cr, i + 1, by rw [HTK.out], rfl, by omega, below_then HB1.out (below_alloc _ _), HM1.out.later (below_alloc _ _), ?_⟩
              rw [HTK.out]
              exact O.own_later HO1.out (below_alloc _ _)
            case measure => simp [intV]; omega
          | false =>
            rw [hany] at hlk HTK
            simp only [Bool.false_eq_true, if_false, Option.getD_none, Option.isSome_none] at hlk HTK
            clear hany
            have HO2 : Hid ((wr.alloc (Obj.cells #[] 81)).ownsRow (w.heap.size + 1) 44 1 (.slice r fl.length cr) fl.length (U64 fl)) := O.own_later HO1.out (below_alloc _ _)
            have HSZ : Hid (w.heap.size + 1 ≤ (wr.alloc (Obj.cells #[] 81)).heap.size) := by have := HM1.out.lt; show _ ≤ _; simp; omega
            go_wp2_with (at_builtin; refine O.wpList_one (w := wr.alloc (Obj.cells #[] 81)) rfl (.tmp 41) (.tmp 43) O.elU rfl rfl HO2.out _ rfl (by simp) rfl (by omega) HSZ.out ?_; intro p5 c5 w5 ho hk hv; have HO5 : Hid (w5.ownsRow (w.heap.size + 1) 44 1 (.slice p5 (fl.length + 1) c5) (fl.length + 1) (U64 fl ++ [.int .u64 x])) := ho; have HK5 : Hid (Kept (fun b => (Value.slice r fl.length cr).ownBlock = some b) (wr.alloc (Obj.cells #[] 81)) w5) := hk; clear ho hk hv)
            go_roundw
            case rel =>
              refine ⟨p5, c5, i + 1, by rw [HTK.out]; simp, rfl, by omega, HK5.out.into (below_then HB1.out (below_alloc _ _)) (fun b hb e => by have := (HO2.out.lt b e).1; omega) (Nat.le_refl _), (HM1.out.later (below_alloc _ _)).far HK5.out (fun e => by have := (HO2.out.lt _ e).1; omega), ?_⟩
              rw [HTK.out, List.length_append, List.length_singleton, U64, List.map_append]
              exact HO5.out
            case measure => simp [intV]; omega
        · obtain rfl : i = m := by omega
          have HF : Hid (tk.take i = tk) := by show _ = _; rw [← HM.out, List.take_length]
          rw [HF.out] at HO1 ⊢
          go_wp2_with fail
          go_ret
          exact ⟨r, cr, rfl, B.own_mono HO1.out (by omega), HB1.out⟩
theorem uin_of_own {w : World} {base n c : Nat} {p : Option Addr} {xs : List Int} (h : w.ownsRow base 44 1 (.slice p n c) n (U64 xs)) : UIn w p n xs := by
  have hl : xs.length = n := by have := h.1; simp [U64] at this; omega
  refine ⟨hl, fun h0 => ?_⟩
  rcases h.2 with ⟨_, hv⟩ | ⟨g, cap, cur, e, _⟩
  · omega
  · cases e
    exact ⟨g, 0, rfl, fun j hj => by rw [Nat.zero_add]; exact O.own_cell h (U64_get (by omega))⟩
set_option maxHeartbeats 2000000 in
set_option maxRecDepth 100000 in
theorem same_is {w : World} {p q : Option Addr} {n m c d : Nat} {xs ys : List Int} (h1 : UIn w p n xs) (h2 : UIn w q m ys) (hn : n ≤ 10000) (e : xs = ys) :
    Calls Tryz.prog 30 #[.slice p n c, .slice q m d] w fun e w' => e = .returned (.bool true) ∧ ∃ k, w' = w.drewN k := by
  subst e
  have hnm : n = m := h1.len.symm.trans h2.len
  subst hnm
  have H1 : Hid (UIn w p n xs) := h1
  have H2 : Hid (UIn w q n xs) := h2
  clear h1 h2
  go_enter Tryz.func30, Tryz.ntmps30
  go_wp2_with fail
  go_loopw [13] (fun v W => ∃ (j k : Nat), v = .int .i64 (j : Int) ∧ j ≤ n ∧ Hid (W = w.drewN k)) (fun v _ => n - (intV v).toNat)
  case atStart => exact ⟨0, 0, rfl, by omega, rfl⟩
  case round =>
    obtain ⟨j, k, rfl, hj, HW⟩ := hrel
    by_cases hjn : j < n
    · obtain ⟨b1, o1, rfl, c1⟩ := H1.out.cells (by omega)
      obtain ⟨b2, o2, rfl, c2⟩ := H2.out.cells (by omega)
      have e1 : wr.cell? ⟨b1, o1 + j, none⟩ = some (.int .u64 (xs.getD j 0)) := by rw [HW.out]; exact c1 j hjn
      have e2 : wr.cell? ⟨b2, o2 + j, none⟩ = some (.int .u64 (xs.getD j 0)) := by rw [HW.out]; exact c2 j hjn
      clear c1 c2
      generalize xs.getD j 0 = x at *
      go_wp2_with fail
      go_quiet (fail)
      go_wp2_with fail
      go_roundw
      case rel => exact ⟨j + 1, k + nq, rfl, by omega, by show _ = _; rw [HW.out]; simp [World.drewN, Nat.add_assoc]⟩
      case measure => simp [intV]; omega
    · go_wp2_with fail
      go_ret
      exact ⟨rfl, k, HW.out⟩
end Go.Proofs.YtkgjmejpbklabaaGreat
