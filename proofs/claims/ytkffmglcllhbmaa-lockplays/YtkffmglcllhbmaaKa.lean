/-
  Layer 14: maps of claims; how locks lie.
-/
import Derived.Test.YtkffmglcllhbmaaTf
import Derived.Test.YtkffmglcllhbmaaBRa
import Derived.Test.YtkffmglcllhbmaaSu
import Derived.Test.YtkffmglcllhbmaaLm
import Derived.Maps.OwnSet
import Derived.Shelf.SlMaps.Clone
namespace Go.Proofs.Ytkffmglcllhbmaa
open Go.RowKit


open Go.Maps (Keyed)
theorem key30 : Keyed Try.prog 30 := Maps.int_keyed Try.underlying30
abbrev U64 (t : Int) : Prop := (Lit.int .u64 t).wf = true
theorem U64.key {t : Int} (h : U64 t) : keyOf Try.prog 30 (.int .u64 t) = some (.int .u64 t) := Maps.keyOf_int_mk Try.underlying30 h
theorem u64_iff {t : Int} : U64 t ↔ 0 ≤ t ∧ t ≤ 18446744073709551615 := by
  have e1 : IntKind.u64.min = 0 := by decide
  have e2 : IntKind.u64.max = 18446744073709551615 := by decide
  simp only [U64, Lit.wf, e1, e2, Bool.and_eq_true, decide_eq_true_eq]
theorem u64_small {t : Int} (h1 : 0 ≤ t) (h2 : t ≤ 18446744073709551615) : U64 t := u64_iff.2 ⟨h1, h2⟩
theorem Kept.of_grown {w w' : World} {b : Nat} (h : w.grownBy w' (some b)) : Kept (· = b) w w' := ⟨h.os, h.tape, h.output, h.size, fun x hx hne => h.block x hx fun e => hne (by simpa using e)⟩
/-- what stands in the map: a claim's value itself -/
def vElem (v : Value) : Option (DataW Value × List MemPlace) := some (.held v, [])
abbrev nils : Value := .slice none 0 0
/-- a claim -/
abbrev cv (v : Value) (d : Nat) : Value := .agg #[v, .int .i64 d]
abbrev noC : Value := .agg #[nils, .int .i64 0]
theorem zeroC (w : World) : (zeroValue 75).run Try.prog w = .ok noC w := by kernel_rfl
/-- block b is a map that reads as m -/
def VMp (w : World) (b n : Nat) (m : Int → Option Value) : Prop := ∃ D : DataW Value, w.ownsMap Try.prog 30 vElem b n D ∧ ∀ t, U64 t → Maps.has D (.int .u64 t) = (m t).isSome ∧ D.atKey (.int .u64 t) (.held noC) = .held ((m t).getD noC)
theorem VMp.typ {w : World} {b n : Nat} {m : Int → Option Value} (h : VMp w b n m) : ∃ es clock, w.heap[b]? = some (.map es clock) := by
  obtain ⟨D, ⟨es, clock, hb, _⟩, _⟩ := h
  exact ⟨es, clock, hb⟩
theorem VMp.lt {w : World} {b n : Nat} {m : Int → Option Value} (h : VMp w b n m) : b < w.heap.size := by
  obtain ⟨es, clock, hb⟩ := h.typ
  exact (Array.getElem?_eq_some_iff.1 hb).1
theorem VMp.kept {w w' : World} {b n : Nat} {m : Int → Option Value} (h : VMp w b n m) (hk : w'.heap[b]? = w.heap[b]?) : VMp w' b n m := by
  obtain ⟨D, ⟨es, clock, hb, r⟩, hD⟩ := h
  exact ⟨D, ⟨es, clock, hk.trans hb, r⟩, hD⟩
theorem VMp.mono {w : World} {b n k : Nat} {m : Int → Option Value} (h : VMp w b n m) (hm : n ≤ k) : VMp w b k m := by
  obtain ⟨D, ho, hD⟩ := h
  exact ⟨D, ho.mono hm, hD⟩
theorem VMp.made (w : World) : VMp (w.alloc (.map #[] 0)) w.heap.size 0 (fun _ => none) := ⟨_, World.ownsMap_made w _ _ _, fun _ _ => ⟨rfl, rfl⟩⟩
/-- 'v, ok := m[k]' -/
theorem VMp.run_look {w : World} {b n : Nat} {m : Int → Option Value} (h : VMp w b n m) {t : Int} (ht : U64 t) :
    (Instr.lookup 81 (.map (some b)) (.int .u64 t) true).run Try.prog w = .ok (.tuple #[(m t).getD noC, .bool (m t).isSome]) w := by
  obtain ⟨D, ho, hD⟩ := h
  obtain ⟨v, ps, hrun, hv⟩ := ho.look_ok key30 Try.underlying81 (zeroC w) (zd := .held noC) (zp := []) rfl ht.key
  rw [(hD t ht).2] at hv
  simp only [vElem, Option.some.injEq, Prod.mk.injEq, DataW.held.injEq] at hv
  rw [hrun, hv.1, (hD t ht).1]
/-- 'm[k]' -/
theorem VMp.run_get {w : World} {b n : Nat} {m : Int → Option Value} (h : VMp w b n m) {t : Int} (ht : U64 t) :
    (Instr.lookup 81 (.map (some b)) (.int .u64 t) false).run Try.prog w = .ok ((m t).getD noC) w := by
  obtain ⟨D, ho, hD⟩ := h
  obtain ⟨v, ps, hrun, hv⟩ := ho.lookup key30 Try.underlying81 (zeroC w) (zd := .held noC) (zp := []) rfl ht.key
  rw [(hD t ht).2] at hv
  simp only [vElem, Option.some.injEq, Prod.mk.injEq, DataW.held.injEq] at hv
  rw [hrun, hv.1]
/-- 'm[k] = v' -/
theorem VMp.run_put {w : World} {b n : Nat} {m : Int → Option Value} (h : VMp w b n m) (hn : n < 10000) {t : Int} (ht : U64 t) (v : Value) :
    ∃ w', (Instr.mapUpdate 81 (.map (some b)) (.int .u64 t) v).run Try.prog w = .ok () w' ∧ VMp w' b (n + 1) (fun u => if u = t then some v else m u) ∧ Kept (· = b) w w' := by
  obtain ⟨D, ho, hD⟩ := h
  have hml : 10000 ≤ maxLen := by decide
  obtain ⟨w', hrun, h1, h2⟩ := ho.store (val := v) (d := .held v) (ps := []) key30 Try.underlying81 (by omega) ht.key rfl
  refine ⟨w', hrun, ⟨_, h1, fun u hu => ?_⟩, Kept.of_grown h2.grown⟩
  dsimp only
  by_cases e : u = t
  · subst e
    rw [if_pos rfl, Maps.has_put_same ho.isMap (key30.key ht.key), Maps.atKey_put_same ho.isMap (key30.key ht.key)]
    exact ⟨rfl, rfl⟩
  · have hne : (Lit.int .u64 u) ≠ Lit.int .u64 t := fun e2 => e (by injection e2)
    rw [if_neg e, Maps.has_put_other hne, Maps.atKey_put_other hne]
    exact hD u hu
/-- 'delete(m, k)' -/
theorem VMp.run_del {w : World} {b n : Nat} {m : Int → Option Value} (h : VMp w b n m) {t : Int} (ht : U64 t) (ty : TypeId) :
    ∃ w', (Builtin.delete_ #[81, 30] ty #[.map (some b), .int .u64 t]).run Try.prog w = .ok (.tuple #[]) w' ∧ VMp w' b n (fun u => if u = t then none else m u) ∧ Kept (· = b) w w' := by
  obtain ⟨D, ho, hD⟩ := h
  obtain ⟨w', hrun, h1, h2⟩ := ho.drop key30 Try.underlying81 ht.key ty
  refine ⟨w', hrun, ⟨_, h1, fun u hu => ?_⟩, Kept.of_grown h2.grown⟩
  dsimp only
  by_cases e : u = t
  · subst e
    rw [if_pos rfl, Maps.has_del_same, Maps.atKey_del_same]
    exact ⟨rfl, rfl⟩
  · have hne : (Lit.int .u64 u) ≠ Lit.int .u64 t := fun e2 => e (by injection e2)
    rw [if_neg e, Maps.has_del_other hne, Maps.atKey_del_other hne]
    exact hD u hu
theorem wpList_delete_v {w : World} {b n : Nat} {ops : Array Oper} {rest : List Oper} {o : Oper} {a : Act} {R : Exit → Act → World → Prop} (hg : o.guard = none) (m x : Operand) (hop : o.op = Op.call { callee := Callee.builtin Builtin.delete, args := #[m, x], argTypes := #[81, 30] })
    (M : Int → Option Value) (hm : a.eval m = .map (some b)) (h : VMp w b n M) (t : Int) (ht : U64 t) (hx : a.eval x = .int .u64 t)
    (hK : ∀ w', VMp w' b n (fun u => if u = t then none else M u) → Kept (· = b) w w' → wpList Try.prog ops R rest (a.put o.dst (.tuple #[])) w') :
    wpList Try.prog ops R (o :: rest) a w := by
  refine wpList_plain hg fun K hK' => ?_
  obtain ⟨w', hr, h2, h3⟩ := h.run_del ht o.type
  unfold Oper.wp
  simp [execOp, hop, resolve, invoke, builtin, hm, hx, hr, Result.andThen]
  exact hK' _ _ (hK w' h2 h3)
def Try.cloneC_ren : Go.Shelf.Ren := ⟨fun | 5 => 47 | 7 => 60 | n => n, fun | 23 => 81 | 25 => 30 | 3 => 75 | 4 => 4 | 20 => 20 | n => n, fun | n => n⟩
theorem Try.cloneC : Go.Proofs.SlLaysW.n5 Try.prog Try.cloneC_ren := {
  mixed := by kernel_rfl
  f5 := ⟨Try.f47.name, by decide, Try.func47.trans (congrArg some (by kernel_rfl))⟩
  f7 := Try.func60.trans (congrArg some (by kernel_rfl))
  t4 := Try.underlying4
  a4 := Try.isAgg4
  z4 := Try.sizeOf4
  v4 := Try.zeroValue4
  t20 := Try.underlying20
  a20 := Try.isAgg20
  z20 := Try.sizeOf20
  v20 := Try.zeroValue20
  t23 := Try.underlying81
  a23 := Try.isAgg81
  z23 := Try.sizeOf81
  v23 := Try.zeroValue81 }
theorem cloneC_at {w : World} {b n : Nat} {m : Int → Option Value} (h : VMp w b n m) : Calls Try.prog 47 #[.map (some b)] w fun e w' => e = .returned (.map (some w.heap.size)) ∧ VMp w' w.heap.size n m ∧ Below w.heap.size w w' := by
  obtain ⟨D, ho, hD⟩ := h
  have hcon := Go.Proofs.AnyW.maps_Clone_owns Try.cloneC 30 _ b n D w ho
  change Calls Try.prog 47 _ _ _ at hcon
  exact hcon.mono fun e w' ⟨h1, h2, _, h4⟩ => ⟨h1, ⟨D, h2, hD⟩, h4⟩

/-- what kind of block it is -/
def kd (w : World) (b : Nat) : Nat := match w.heap[b]? with | some (.cells _ ty _) => ty | some (.map _ _) => 100000 | _ => 100001
theorem ne_kd {w : World} {a b x y : Nat} (h1 : kd w a = x) (h2 : kd w b = y) (hxy : x ≠ y) : a ≠ b := fun e => hxy (by rw [← h1, ← h2, e])
theorem kd_cells {w : World} {b : Nat} {cs : Array Value} {ty : TypeId} {z : Nat × Nat} (h : w.heap[b]? = some (.cells cs ty z)) : kd w b = ty := by simp only [kd, h]
theorem kd_map {w : World} {b : Nat} (h : ∃ es clock, w.heap[b]? = some (.map es clock)) : kd w b = 100000 := by
  obtain ⟨es, clock, h⟩ := h
  simp only [kd, h]
theorem kd_eq {w w' : World} {b : Nat} (h : w'.heap[b]? = w.heap[b]?) : kd w' b = kd w b := by simp only [kd, h]
theorem Row.kd {w : World} {v : Value} {xs : List Int} (h : Row w v xs) {g : Nat} (hg : blk v = some g) : kd w g = 30 := by
  obtain ⟨cur, hc⟩ := h.typ hg
  exact kd_cells hc

/-- a set as it is kept: a row of its own -/
def Frm (w : World) (v : Value) (f : List Int) : Prop := w.ownsRow 0 3 1 v f.length (B.I64 f)
theorem Frm.later {w w' : World} {v : Value} {f : List Int} (h : Frm w v f) (hb : Below w.heap.size w w') : Frm w' v f := B.own_later h hb
theorem Frm.of_made {w w' : World} {p : Option Addr} {c : Nat} {f : List Int} (h : B.Made w w' p f.length c f) : Frm w' (.slice p f.length c) f := B.own_mono h.own (Nat.zero_le _)
theorem Frm.kept {w w' : World} {v : Value} {f : List Int} (h : Frm w v f) (hk : ∀ g, blk v = some g → g < w.heap.size → kd w g = 3 → w'.heap[g]? = w.heap[g]?) : Frm w' v f := by
  refine ⟨h.1, ?_⟩
  rcases h.2 with h2 | ⟨g, cap, cur, e, h1, hg, r⟩
  · exact .inl h2
  · exact .inr ⟨g, cap, cur, e, h1, (hk g (by rw [e]; rfl) (Array.getElem?_eq_some_iff.1 hg).1 (kd_cells hg)).trans hg, r⟩
theorem Frm.far {w w' : World} {v : Value} {f : List Int} {S : Nat → Prop} (h : Frm w v f) (hk : Kept S w w') (hS : ∀ g, blk v = some g → kd w g = 3 → ¬ S g) : Frm w' v f := h.kept fun g hg hl h3 => hk.block g hl (hS g hg h3)
theorem Frm.read {w : World} {v : Value} {f : List Int} (h : Frm w v f) : ∃ p c, v = .slice p f.length c ∧ B.IIn w p f.length f ∧ f.length ≤ c ∧ (p = none → c = 0) := by
  obtain ⟨p, c, e, h1, h2, h3, _⟩ := B.ints_in h
  exact ⟨p, c, e, h1, h2, h3⟩
theorem Frm.nil (w : World) : Frm w nils [] := World.ownsRow_nil _ _ _ _
theorem Frm.lt {w : World} {v : Value} {f : List Int} (h : Frm w v f) {g : Nat} (hg : blk v = some g) : g < w.heap.size ∧ Go.Proofs.Ytkffmglcllhbmaa.kd w g = 3 := by
  rcases h.2 with ⟨rfl, _⟩ | ⟨g', cap, cur, rfl, h1, hg', r⟩
  · cases hg
  · simp only [blk, Option.some.injEq] at hg
    subst hg
    exact ⟨(Array.getElem?_eq_some_iff.1 hg').1, kd_cells hg'⟩

/-- a map of claims: of each ticket that is there its set and how much is locked -/
structure CM (w : World) (G : Nat → Prop) (b n : Nat) (L : List En) (m : Int → Option Value) : Prop where
  mp : VMp w b n m
  out : ∀ t, U64 t → isIn L t = false → m t = none
  ins : ∀ e ∈ L, ∃ p c, m e.t = some (cv (.slice p e.s.length c) e.d) ∧ Frm w (.slice p e.s.length c) e.s ∧ ∀ g, blk (.slice p e.s.length c) = some g → G g
theorem CM.far {w w' : World} {G : Nat → Prop} {b n : Nat} {L : List En} {m : Int → Option Value} {S : Nat → Prop} (h : CM w G b n L m) (hk : Kept S w w') (hb : ¬ S b) (hS : ∀ g, G g → kd w g = 3 → ¬ S g) : CM w' G b n L m := by
  refine ⟨h.mp.kept (hk.block b h.mp.lt hb), h.out, fun e he => ?_⟩
  obtain ⟨p, c, h1, h2, h3⟩ := h.ins e he
  exact ⟨p, c, h1, h2.far hk (fun g hg => hS g (h3 g hg)), h3⟩
theorem CM.ent {w : World} {G : Nat → Prop} {b n : Nat} {L : List En} {m : Int → Option Value} (h : CM w G b n L m) {t : Int} (ht : U64 t) :
    ∃ p c, (m t).getD noC = cv (.slice p (Go.Proofs.Ytkffmglcllhbmaa.ent L t).s.length c) (Go.Proofs.Ytkffmglcllhbmaa.ent L t).d ∧ (m t).isSome = isIn L t ∧ Frm w (.slice p (Go.Proofs.Ytkffmglcllhbmaa.ent L t).s.length c) (Go.Proofs.Ytkffmglcllhbmaa.ent L t).s ∧ ∀ g, blk (.slice p (Go.Proofs.Ytkffmglcllhbmaa.ent L t).s.length c) = some g → G g := by
  cases hi : isIn L t with
  | false =>
    have h1 := out_nx hi
    rw [h.out t ht hi, h1.2.2.2.1, h1.2.2.2.2]
    exact ⟨none, 0, rfl, rfl, Frm.nil w, fun g e => by cases e⟩
  | true =>
    obtain ⟨h1, h2, h3⟩ := isIn_ent hi
    obtain ⟨p, c, e1, e2, e3⟩ := h.ins _ h2
    rw [h3] at e1
    exact ⟨p, c, by rw [e1]; rfl, by rw [e1]; rfl, e2, e3⟩

/-- where locks lie -/
structure Ft where
  Q : Nat
  qb : Nat
  q : Nat → Nat
  v : Nat → Value
  th : Nat
  tv : Value
  mb : Nat
  G : Nat → Prop
  m : Int → Option Value
def Ft.has (F : Ft) (N b : Nat) : Prop := b = F.Q ∨ b = F.qb ∨ (∃ i, i < N ∧ b = F.q i) ∨ (∃ i, i < N ∧ blk (F.v i) = some b) ∨ b = F.th ∨ blk F.tv = some b ∨ b = F.mb
abbrev kcells (F : Ft) (N : Nat) : Array Value := #[.slice (some ⟨F.qb, 0, none⟩) N N, qp F.th, .map (some F.mb)]
def qrow (F : Ft) (N : Nat) : List Value := (List.range N).map fun i => qp (F.q i)
structure PL (w : World) (F : Ft) (n : Nat) (a : Lk) : Prop where
  st : w.heap[F.Q]? = some (.cells (kcells F a.bl) 83 (0, 0))
  qs : w.heap[F.qb]? = some (.cells (qrow F a.bl).toArray 80 (0, 0))
  lq : ∀ i, i < a.bl → ∃ m, m ≤ a.last ∧ QAt 101 w (F.q i) (F.v i) (qS a.L i) m
  lt' : QAt 101 w F.th F.tv (tix a.L) a.last
  cm : CM w F.G F.mb n a.L F.m
  ok : Ok a
  len : a.L.length ≤ n
  qq : ∀ i j, i < a.bl → j < a.bl → F.q i = F.q j → i = j
  qt : ∀ i, i < a.bl → F.q i ≠ F.th
  vv : ∀ i j g, i < a.bl → j < a.bl → blk (F.v i) = some g → blk (F.v j) = some g → i = j
  vt : ∀ i g, i < a.bl → blk (F.v i) = some g → ¬ blk F.tv = some g
section
variable {w w' : World} {F : Ft} {n : Nat} {a : Lk}
theorem PL.kQ (h : PL w F n a) : kd w F.Q = 83 := kd_cells h.st
theorem PL.kb (h : PL w F n a) : kd w F.qb = 80 := kd_cells h.qs
theorem PL.kq (h : PL w F n a) {i : Nat} (hi : i < a.bl) : kd w (F.q i) = 101 := by obtain ⟨m, _, hq⟩ := h.lq i hi; exact kd_cells hq.st
theorem PL.kv (h : PL w F n a) {i g : Nat} (hi : i < a.bl) (hg : blk (F.v i) = some g) : kd w g = 30 := by obtain ⟨m, _, hq⟩ := h.lq i hi; exact hq.row.kd hg
theorem PL.kt (h : PL w F n a) : kd w F.th = 101 := kd_cells h.lt'.st
theorem PL.kx (h : PL w F n a) {g : Nat} (hg : blk F.tv = some g) : kd w g = 30 := h.lt'.row.kd hg
theorem PL.km (h : PL w F n a) : kd w F.mb = 100000 := kd_map h.cm.mp.typ
/-- the kinds of blocks that locks own -/
def kinds (k : Nat) : Prop := k = 83 ∨ k = 80 ∨ k = 101 ∨ k = 30 ∨ k = 100000
theorem PL.kinds (h : PL w F n a) {b : Nat} (hb : F.has a.bl b) : Go.Proofs.Ytkffmglcllhbmaa.kinds (kd w b) := by
  rcases hb with rfl | rfl | ⟨i, hi, rfl⟩ | ⟨i, hi, e⟩ | rfl | e | rfl
  · exact .inl h.kQ
  · exact .inr (.inl h.kb)
  · exact .inr (.inr (.inl (h.kq hi)))
  · exact .inr (.inr (.inr (.inl (h.kv hi e))))
  · exact .inr (.inr (.inl h.kt))
  · exact .inr (.inr (.inr (.inl (h.kx e))))
  · exact .inr (.inr (.inr (.inr h.km)))
theorem PL.noInts (h : PL w F n a) {b : Nat} (hb : kd w b = 3) : ¬ F.has a.bl b := fun e => by
  have := h.kinds e
  rw [hb] at this
  rcases this with e | e | e | e | e <;> cases e
theorem PL.lt (h : PL w F n a) {b : Nat} (hb : F.has a.bl b) : b < w.heap.size := by
  rcases hb with rfl | rfl | ⟨i, hi, rfl⟩ | ⟨i, hi, e⟩ | rfl | e | rfl
  · exact (Array.getElem?_eq_some_iff.1 h.st).1
  · exact (Array.getElem?_eq_some_iff.1 h.qs).1
  · obtain ⟨m, _, hq⟩ := h.lq i hi; exact hq.lt
  · obtain ⟨m, _, hq⟩ := h.lq i hi; exact hq.row.lt e
  · exact h.lt'.lt
  · exact h.lt'.row.lt e
  · exact h.cm.mp.lt
theorem PL.far {S : Nat → Prop} (h : PL w F n a) (hk : Kept S w w') (hF : ∀ b, F.has a.bl b → ¬ S b) (hS : ∀ g, F.G g → kd w g = 3 → ¬ S g) : PL w' F n a :=
  ⟨(hk.block _ (h.lt (.inl rfl)) (hF _ (.inl rfl))).trans h.st, (hk.block _ (h.lt (.inr (.inl rfl))) (hF _ (.inr (.inl rfl)))).trans h.qs,
    fun i hi => by
      obtain ⟨m, hm, hq⟩ := h.lq i hi
      exact ⟨m, hm, hq.far hk (hF _ (.inr (.inr (.inl ⟨i, hi, rfl⟩)))) (fun g hg => hF g (.inr (.inr (.inr (.inl ⟨i, hi, hg⟩)))))⟩,
    h.lt'.far hk (hF _ (.inr (.inr (.inr (.inr (.inl rfl)))))) (fun g hg => hF g (.inr (.inr (.inr (.inr (.inr (.inl hg))))))),
    h.cm.far hk (hF _ (.inr (.inr (.inr (.inr (.inr (.inr rfl))))))) hS, h.ok, h.len, h.qq, h.qt, h.vv, h.vt⟩
theorem PL.later (h : PL w F n a) (hb : Below w.heap.size w w') : PL w' F n a := h.far (Kept.of_below (fun _ => False) hb) (fun _ _ => id) (fun _ _ _ => id)
theorem PL.drawn (h : PL w F n a) (nq : Nat) : PL (w.drewN nq) F n a := h.later (below_drawn nq)
theorem PL.mono {k : Nat} (h : PL w F n a) (hk : n ≤ k) : PL w F k a := ⟨h.st, h.qs, h.lq, h.lt', ⟨h.cm.mp.mono hk, h.cm.out, h.cm.ins⟩, h.ok, Nat.le_trans h.len hk, h.qq, h.qt, h.vv, h.vt⟩
theorem PL.more (h : PL w F n a) : PL w F (n + 1) a := h.mono (Nat.le_succ n)
theorem PL.c (h : PL w F n a) (o : Nat) : w.cell? ⟨F.Q, o, none⟩ = (kcells F a.bl)[o]? := cell_of_row _ F.Q o _ 83 (0, 0) h.st
theorem PL.cq (h : PL w F n a) {i : Nat} (hi : i < a.bl) : w.cell? ⟨F.qb, i, none⟩ = some (qp (F.q i)) := by
  rw [cell_of_row _ F.qb i _ 80 (0, 0) h.qs]
  simp [qrow, hi]
/-- what a call may have made of where locks lie -/
structure Grw (w w' : World) (N : Nat) (F F' : Ft) : Prop where
  q : F'.Q = F.Q
  has : ∀ b, F'.has N b → F.has N b ∨ w.heap.size ≤ b
  g : ∀ b, F'.G b → F.G b ∨ (w.heap.size ≤ b ∧ b < w'.heap.size)
theorem Grw.refl (w w' : World) (N : Nat) (F : Ft) : Grw w w' N F F := ⟨rfl, fun _ h => .inl h, fun _ h => .inl h⟩
end
end Go.Proofs.Ytkffmglcllhbmaa
