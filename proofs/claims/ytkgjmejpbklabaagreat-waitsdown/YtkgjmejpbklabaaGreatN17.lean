/-
  Layer 14: maps of claims; how locks lie. Layer 14: rises, hasBlock, held, claimOf, Next. Layer 14: a queue gone through: standing, first, Ready, Queue. Layer 14: slices.Clone of numbers; Held, Holder.
-/
import Derived.Test.YtkgjmejpbklabaaGreatN2
import Derived.Test.YtkgjmejpbklabaaGreatBRa
import Derived.Test.YtkgjmejpbklabaaGreatN4
import Derived.Test.YtkgjmejpbklabaaGreatLm
import Derived.Maps.OwnSet
import Derived.Shelf.SlMaps.Clone
import Derived.Laws.ResultCell
namespace Go.Proofs.YtkgjmejpbklabaaGreat.K
open Go.RowKit
open Go.Maps (Keyed)
theorem key30 : Keyed Tryz.prog 44 := Maps.int_keyed Tryz.underlying44
abbrev U64 (t : Int) : Prop := (Lit.int .u64 t).wf = true
theorem U64.key {t : Int} (h : U64 t) : keyOf Tryz.prog 44 (.int .u64 t) = some (.int .u64 t) := Maps.keyOf_int_mk Tryz.underlying44 h
theorem u64_iff {t : Int} : U64 t ↔ 0 ≤ t ∧ t ≤ 18446744073709551615 := by
  have e1 : IntKind.u64.min = 0 := by decide
  have e2 : IntKind.u64.max = 18446744073709551615 := by decide
  simp only [U64, Lit.wf, e1, e2, Bool.and_eq_true, decide_eq_true_eq]
theorem u64_small {t : Int} (h1 : 0 ≤ t) (h2 : t ≤ 18446744073709551615) : U64 t := u64_iff.2 ⟨h1, h2⟩
theorem Kept.of_grown {w w' : World} {b : Nat} (h : w.grownBy w' (some b)) : Kept (· = b) w w' := ⟨h.os, h.tape, h.output, h.size, fun x hx hne => h.block x hx fun e => hne (by simpa using e)⟩
/-- what stands in the map: a claim's value itself -/
def vElem (v : Value) : Option (DataW Value × List MemPlace) := some (.held v, [])
abbrev nils : Value := .slice none 0 0
/-- a claim -/
abbrev cv (v : Value) (d : Nat) : Value := .agg #[v, .int .i64 d]
abbrev noC : Value := .agg #[nils, .int .i64 0]
theorem zeroC (w : World) : (zeroValue 129).run Tryz.prog w = .ok noC w := by kernel_rfl
/-- block b is a map that reads as m -/
def VMp (w : World) (b n : Nat) (m : Int → Option Value) : Prop := ∃ D : DataW Value, w.ownsMap Tryz.prog 44 vElem b n D ∧ ∀ t, U64 t → Maps.has D (.int .u64 t) = (m t).isSome ∧ D.atKey (.int .u64 t) (.held noC) = .held ((m t).getD noC)
theorem VMp.typ {w : World} {b n : Nat} {m : Int → Option Value} (h : VMp w b n m) : ∃ es clock, w.heap[b]? = some (.map es clock) := by
  obtain ⟨D, ⟨es, clock, hb, _⟩, _⟩ := h
  exact ⟨es, clock, hb⟩
theorem VMp.lt {w : World} {b n : Nat} {m : Int → Option Value} (h : VMp w b n m) : b < w.heap.size := by
  obtain ⟨es, clock, hb⟩ := h.typ
  exact (Array.getElem?_eq_some_iff.1 hb).1
theorem VMp.kept {w w' : World} {b n : Nat} {m : Int → Option Value} (h : VMp w b n m) (hk : w'.heap[b]? = w.heap[b]?) : VMp w' b n m := by
  obtain ⟨D, ⟨es, clock, hb, r⟩, hD⟩ := h
  exact ⟨D, ⟨es, clock, hk.trans hb, r⟩, hD⟩
theorem VMp.mono {w : World} {b n k : Nat} {m : Int → Option Value} (h : VMp w b n m) (hm : n ≤ k) : VMp w b k m := by
  obtain ⟨D, ho, hD⟩ := h
  exact ⟨D, ho.mono hm, hD⟩
theorem VMp.made (w : World) : VMp (w.alloc (.map #[] 0)) w.heap.size 0 (fun _ => none) := ⟨_, World.ownsMap_made w _ _ _, fun _ _ => ⟨rfl, rfl⟩⟩
/-- 'v, ok := m[k]' -/
theorem VMp.run_look {w : World} {b n : Nat} {m : Int → Option Value} (h : VMp w b n m) {t : Int} (ht : U64 t) :
    (Instr.lookup 64 (.map (some b)) (.int .u64 t) true).run Tryz.prog w = .ok (.tuple #[(m t).getD noC, .bool (m t).isSome]) w := by
  obtain ⟨D, ho, hD⟩ := h
  obtain ⟨v, ps, hrun, hv⟩ := ho.look_ok key30 Tryz.underlying64 (zeroC w) (zd := .held noC) (zp := []) rfl ht.key
  rw [(hD t ht).2] at hv
  simp only [vElem, Option.some.injEq, Prod.mk.injEq, DataW.held.injEq] at hv
  rw [hrun, hv.1, (hD t ht).1]
/-- 'm[k]' -/
theorem VMp.run_get {w : World} {b n : Nat} {m : Int → Option Value} (h : VMp w b n m) {t : Int} (ht : U64 t) :
    (Instr.lookup 64 (.map (some b)) (.int .u64 t) false).run Tryz.prog w = .ok ((m t).getD noC) w := by
  obtain ⟨D, ho, hD⟩ := h
  obtain ⟨v, ps, hrun, hv⟩ := ho.lookup key30 Tryz.underlying64 (zeroC w) (zd := .held noC) (zp := []) rfl ht.key
  rw [(hD t ht).2] at hv
  simp only [vElem, Option.some.injEq, Prod.mk.injEq, DataW.held.injEq] at hv
  rw [hrun, hv.1]
/-- 'm[k] = v' -/
theorem VMp.run_put {w : World} {b n : Nat} {m : Int → Option Value} (h : VMp w b n m) (hn : n < 10000) {t : Int} (ht : U64 t) (v : Value) :
    ∃ w', (Instr.mapUpdate 64 (.map (some b)) (.int .u64 t) v).run Tryz.prog w = .ok () w' ∧ VMp w' b (n + 1) (fun u => if u = t then some v else m u) ∧ Kept (· = b) w w' := by
  obtain ⟨D, ho, hD⟩ := h
  have hml : 10000 ≤ maxLen := by decide
  obtain ⟨w', hrun, h1, h2⟩ := ho.store (val := v) (d := .held v) (ps := []) key30 Tryz.underlying64 (by omega) ht.key rfl
  refine ⟨w', hrun, ⟨_, h1, fun u hu => ?_⟩, Kept.of_grown h2.grown⟩
  dsimp only
  by_cases e : u = t
  · subst e
    rw [if_pos rfl, Maps.has_put_same ho.isMap (key30.key ht.key), Maps.atKey_put_same ho.isMap (key30.key ht.key)]
    exact ⟨rfl, rfl⟩
  · have hne : (Lit.int .u64 u) ≠ Lit.int .u64 t := fun e2 => e (by injection e2)
    rw [if_neg e, Maps.has_put_other hne, Maps.atKey_put_other hne]
    exact hD u hu
/-- 'delete(m, k)' -/
theorem VMp.run_del {w : World} {b n : Nat} {m : Int → Option Value} (h : VMp w b n m) {t : Int} (ht : U64 t) (ty : TypeId) :
    ∃ w', (Builtin.delete_ #[64, 44] ty #[.map (some b), .int .u64 t]).run Tryz.prog w = .ok (.tuple #[]) w' ∧ VMp w' b n (fun u => if u = t then none else m u) ∧ Kept (· = b) w w' := by
  obtain ⟨D, ho, hD⟩ := h
  obtain ⟨w', hrun, h1, h2⟩ := ho.drop key30 Tryz.underlying64 ht.key ty
  refine ⟨w', hrun, ⟨_, h1, fun u hu => ?_⟩, Kept.of_grown h2.grown⟩
  dsimp only
  by_cases e : u = t
  · subst e
    rw [if_pos rfl, Maps.has_del_same, Maps.atKey_del_same]
    exact ⟨rfl, rfl⟩
  · have hne : (Lit.int .u64 u) ≠ Lit.int .u64 t := fun e2 => e (by injection e2)
    rw [if_neg e, Maps.has_del_other hne, Maps.atKey_del_other hne]
    exact hD u hu
theorem wpList_delete_v {w : World} {b n : Nat} {ops : Array Oper} {rest : List Oper} {o : Oper} {a : Act} {R : Exit → Act → World → Prop} (hg : o.guard = none) (m x : Operand) (hop : o.op = Op.call { callee := Callee.builtin Builtin.delete, args := #[m, x], argTypes := #[64, 44] })
    (M : Int → Option Value) (hm : a.eval m = .map (some b)) (h : VMp w b n M) (t : Int) (ht : U64 t) (hx : a.eval x = .int .u64 t)
    (hK : ∀ w', VMp w' b n (fun u => if u = t then none else M u) → Kept (· = b) w w' → wpList Tryz.prog ops R rest (a.put o.dst (.tuple #[])) w') :
    wpList Tryz.prog ops R (o :: rest) a w := by
  refine wpList_plain hg fun K hK' => ?_
  obtain ⟨w', hr, h2, h3⟩ := h.run_del ht o.type
  unfold Oper.wp
  simp [execOp, hop, resolve, invoke, builtin, hm, hx, hr, Result.andThen]
  exact hK' _ _ (hK w' h2 h3)
/-- what kind of block it is -/
def kd (w : World) (b : Nat) : Nat := match w.heap[b]? with | some (.cells _ ty _) => ty | some (.map _ _) => 100000 | _ => 100001
theorem ne_kd {w : World} {a b x y : Nat} (h1 : kd w a = x) (h2 : kd w b = y) (hxy : x ≠ y) : a ≠ b := fun e => hxy (by rw [← h1, ← h2, e])
theorem kd_cells {w : World} {b : Nat} {cs : Array Value} {ty : TypeId} {z : Nat × Nat} (h : w.heap[b]? = some (.cells cs ty z)) : kd w b = ty := by simp only [kd, h]
theorem kd_map {w : World} {b : Nat} (h : ∃ es clock, w.heap[b]? = some (.map es clock)) : kd w b = 100000 := by
  obtain ⟨es, clock, h⟩ := h
  simp only [kd, h]
theorem kd_eq {w w' : World} {b : Nat} (h : w'.heap[b]? = w.heap[b]?) : kd w' b = kd w b := by simp only [kd, h]
theorem Row_kd {w : World} {v : Value} {xs : List Int} (h : Row w v xs) {g : Nat} (hg : blk v = some g) : kd w g = 44 := by
  obtain ⟨cur, hc⟩ := h.typ hg
  exact kd_cells hc
/-- a set as it is kept: a row of its own -/
def Frm (w : World) (v : Value) (f : List Int) : Prop := w.ownsRow 0 3 1 v f.length (B.I64 f)
theorem Frm.later {w w' : World} {v : Value} {f : List Int} (h : Frm w v f) (hb : Below w.heap.size w w') : Frm w' v f := B.own_later h hb
theorem Frm.of_made {w w' : World} {p : Option Addr} {c : Nat} {f : List Int} (h : B.Made w w' p f.length c f) : Frm w' (.slice p f.length c) f := B.own_mono h.own (Nat.zero_le _)
theorem Frm.kept {w w' : World} {v : Value} {f : List Int} (h : Frm w v f) (hk : ∀ g, blk v = some g → g < w.heap.size → kd w g = 3 → w'.heap[g]? = w.heap[g]?) : Frm w' v f := by
  refine ⟨h.1, ?_⟩
  rcases h.2 with h2 | ⟨g, cap, cur, e, h1, hg, r⟩
  · exact .inl h2
  · exact .inr ⟨g, cap, cur, e, h1, (hk g (by rw [e]; rfl) (Array.getElem?_eq_some_iff.1 hg).1 (kd_cells hg)).trans hg, r⟩
theorem Frm.far {w w' : World} {v : Value} {f : List Int} {S : Nat → Prop} (h : Frm w v f) (hk : Kept S w w') (hS : ∀ g, blk v = some g → kd w g = 3 → ¬ S g) : Frm w' v f := h.kept fun g hg hl h3 => hk.block g hl (hS g hg h3)
theorem Frm.read {w : World} {v : Value} {f : List Int} (h : Frm w v f) : ∃ p c, v = .slice p f.length c ∧ B.IIn w p f.length f ∧ f.length ≤ c ∧ (p = none → c = 0) := by
  obtain ⟨p, c, e, h1, h2, h3, _⟩ := B.ints_in h
  exact ⟨p, c, e, h1, h2, h3⟩
theorem Frm.nil (w : World) : Frm w nils [] := World.ownsRow_nil _ _ _ _
theorem Frm.lt {w : World} {v : Value} {f : List Int} (h : Frm w v f) {g : Nat} (hg : blk v = some g) : g < w.heap.size ∧ Go.Proofs.YtkgjmejpbklabaaGreat.K.kd w g = 3 := by
  rcases h.2 with ⟨rfl, _⟩ | ⟨g', cap, cur, rfl, h1, hg', r⟩
  · cases hg
  · simp only [blk, Option.some.injEq] at hg
    subst hg
    exact ⟨(Array.getElem?_eq_some_iff.1 hg').1, kd_cells hg'⟩
/-- a map of claims: of each ticket that is there its set and how much is locked -/
structure CM (w : World) (G : Nat → Prop) (b n : Nat) (L : List En) (m : Int → Option Value) : Prop where
  mp : VMp w b n m
  out : ∀ t, U64 t → isIn L t = false → m t = none
  ins : ∀ e ∈ L, ∃ p c, m e.t = some (cv (.slice p e.s.length c) e.d) ∧ Frm w (.slice p e.s.length c) e.s ∧ ∀ g, blk (.slice p e.s.length c) = some g → G g
theorem CM.far {w w' : World} {G : Nat → Prop} {b n : Nat} {L : List En} {m : Int → Option Value} {S : Nat → Prop} (h : CM w G b n L m) (hk : Kept S w w') (hb : ¬ S b) (hS : ∀ g, G g → kd w g = 3 → ¬ S g) : CM w' G b n L m := by
  refine ⟨h.mp.kept (hk.block b h.mp.lt hb), h.out, fun e he => ?_⟩
  obtain ⟨p, c, h1, h2, h3⟩ := h.ins e he
  exact ⟨p, c, h1, h2.far hk (fun g hg => hS g (h3 g hg)), h3⟩
theorem CM.ent {w : World} {G : Nat → Prop} {b n : Nat} {L : List En} {m : Int → Option Value} (h : CM w G b n L m) {t : Int} (ht : U64 t) :
    ∃ p c, (m t).getD noC = cv (.slice p (Go.Proofs.YtkgjmejpbklabaaGreat.K.ent L t).s.length c) (Go.Proofs.YtkgjmejpbklabaaGreat.K.ent L t).d ∧ (m t).isSome = isIn L t ∧ Frm w (.slice p (Go.Proofs.YtkgjmejpbklabaaGreat.K.ent L t).s.length c) (Go.Proofs.YtkgjmejpbklabaaGreat.K.ent L t).s ∧ ∀ g, blk (.slice p (Go.Proofs.YtkgjmejpbklabaaGreat.K.ent L t).s.length c) = some g → G g := by
  cases hi : isIn L t with
  | false =>
    have h1 := out_nx hi
    rw [h.out t ht hi, h1.2.2.2.1, h1.2.2.2.2]
    exact ⟨none, 0, rfl, rfl, Frm.nil w, fun g e => by cases e⟩
  | true =>
    obtain ⟨h1, h2, h3⟩ := isIn_ent hi
    obtain ⟨p, c, e1, e2, e3⟩ := h.ins _ h2
    rw [h3] at e1
    exact ⟨p, c, by rw [e1]; rfl, by rw [e1]; rfl, e2, e3⟩
/-- where locks lie -/
structure Ft where
  Q : Nat
  qb : Nat
  q : Nat → Nat
  v : Nat → Value
  th : Nat
  tv : Value
  mb : Nat
  G : Nat → Prop
  m : Int → Option Value
def Ft.has (F : Ft) (N b : Nat) : Prop := b = F.Q ∨ b = F.qb ∨ (∃ i, i < N ∧ b = F.q i) ∨ (∃ i, i < N ∧ blk (F.v i) = some b) ∨ b = F.th ∨ blk F.tv = some b ∨ b = F.mb
abbrev kcells (F : Ft) (N : Nat) : Array Value := #[.slice (some ⟨F.qb, 0, none⟩) N N, qp F.th, .map (some F.mb)]
def qrow (F : Ft) (N : Nat) : List Value := (List.range N).map fun i => qp (F.q i)
structure PL (w : World) (F : Ft) (n : Nat) (a : Lk) : Prop where
  st : w.heap[F.Q]? = some (.cells (kcells F a.bl) 66 (0, 0))
  qs : w.heap[F.qb]? = some (.cells (qrow F a.bl).toArray 57 (0, 0))
  lq : ∀ i, i < a.bl → ∃ m, m ≤ a.last ∧ QAt 59 w (F.q i) (F.v i) (qS a.L i) m
  lt' : QAt 59 w F.th F.tv (tix a.L) a.last
  cm : CM w F.G F.mb n a.L F.m
  ok : Ok a
  len : a.L.length ≤ n
  qq : ∀ i j, i < a.bl → j < a.bl → F.q i = F.q j → i = j
  qt : ∀ i, i < a.bl → F.q i ≠ F.th
  vv : ∀ i j g, i < a.bl → j < a.bl → blk (F.v i) = some g → blk (F.v j) = some g → i = j
  vt : ∀ i g, i < a.bl → blk (F.v i) = some g → ¬ blk F.tv = some g
section
variable {w w' : World} {F : Ft} {n : Nat} {a : Lk}
theorem PL.kQ (h : PL w F n a) : kd w F.Q = 66 := kd_cells h.st
theorem PL.kb (h : PL w F n a) : kd w F.qb = 57 := kd_cells h.qs
theorem PL.kq (h : PL w F n a) {i : Nat} (hi : i < a.bl) : kd w (F.q i) = 59 := by obtain ⟨m, _, hq⟩ := h.lq i hi; exact kd_cells hq.st
theorem PL.kv (h : PL w F n a) {i g : Nat} (hi : i < a.bl) (hg : blk (F.v i) = some g) : kd w g = 44 := by obtain ⟨m, _, hq⟩ := h.lq i hi; exact Row_kd hq.row hg
theorem PL.kt (h : PL w F n a) : kd w F.th = 59 := kd_cells h.lt'.st
theorem PL.kx (h : PL w F n a) {g : Nat} (hg : blk F.tv = some g) : kd w g = 44 := Row_kd h.lt'.row hg
theorem PL.km (h : PL w F n a) : kd w F.mb = 100000 := kd_map h.cm.mp.typ
/-- the kinds of blocks that locks own -/
def kinds (k : Nat) : Prop := k = 66 ∨ k = 57 ∨ k = 59 ∨ k = 44 ∨ k = 100000
theorem PL.kinds (h : PL w F n a) {b : Nat} (hb : F.has a.bl b) : Go.Proofs.YtkgjmejpbklabaaGreat.K.kinds (kd w b) := by
  rcases hb with rfl | rfl | ⟨i, hi, rfl⟩ | ⟨i, hi, e⟩ | rfl | e | rfl
  · exact .inl h.kQ
  · exact .inr (.inl h.kb)
  · exact .inr (.inr (.inl (h.kq hi)))
  · exact .inr (.inr (.inr (.inl (h.kv hi e))))
  · exact .inr (.inr (.inl h.kt))
  · exact .inr (.inr (.inr (.inl (h.kx e))))
  · exact .inr (.inr (.inr (.inr h.km)))
theorem PL.noInts (h : PL w F n a) {b : Nat} (hb : kd w b = 3) : ¬ F.has a.bl b := fun e => by
  have := h.kinds e
  rw [hb] at this
  rcases this with e | e | e | e | e <;> cases e
theorem PL.lt (h : PL w F n a) {b : Nat} (hb : F.has a.bl b) : b < w.heap.size := by
  rcases hb with rfl | rfl | ⟨i, hi, rfl⟩ | ⟨i, hi, e⟩ | rfl | e | rfl
  · exact (Array.getElem?_eq_some_iff.1 h.st).1
  · exact (Array.getElem?_eq_some_iff.1 h.qs).1
  · obtain ⟨m, _, hq⟩ := h.lq i hi; exact hq.lt
  · obtain ⟨m, _, hq⟩ := h.lq i hi; exact hq.row.lt e
  · exact h.lt'.lt
  · exact h.lt'.row.lt e
  · exact h.cm.mp.lt
theorem PL.far {S : Nat → Prop} (h : PL w F n a) (hk : Kept S w w') (hF : ∀ b, F.has a.bl b → ¬ S b) (hS : ∀ g, F.G g → kd w g = 3 → ¬ S g) : PL w' F n a :=
  ⟨(hk.block _ (h.lt (.inl rfl)) (hF _ (.inl rfl))).trans h.st, (hk.block _ (h.lt (.inr (.inl rfl))) (hF _ (.inr (.inl rfl)))).trans h.qs,
    fun i hi => by
      obtain ⟨m, hm, hq⟩ := h.lq i hi
      exact ⟨m, hm, hq.far hk (hF _ (.inr (.inr (.inl ⟨i, hi, rfl⟩)))) (fun g hg => hF g (.inr (.inr (.inr (.inl ⟨i, hi, hg⟩)))))⟩,
    h.lt'.far hk (hF _ (.inr (.inr (.inr (.inr (.inl rfl)))))) (fun g hg => hF g (.inr (.inr (.inr (.inr (.inr (.inl hg))))))),
    h.cm.far hk (hF _ (.inr (.inr (.inr (.inr (.inr (.inr rfl))))))) hS, h.ok, h.len, h.qq, h.qt, h.vv, h.vt⟩
theorem PL.later (h : PL w F n a) (hb : Below w.heap.size w w') : PL w' F n a := h.far (Kept.of_below (fun _ => False) hb) (fun _ _ => id) (fun _ _ _ => id)
theorem PL.drawn (h : PL w F n a) (nq : Nat) : PL (w.drewN nq) F n a := h.later (below_drawn nq)
theorem PL.mono {k : Nat} (h : PL w F n a) (hk : n ≤ k) : PL w F k a := ⟨h.st, h.qs, h.lq, h.lt', ⟨h.cm.mp.mono hk, h.cm.out, h.cm.ins⟩, h.ok, Nat.le_trans h.len hk, h.qq, h.qt, h.vv, h.vt⟩
theorem PL.more (h : PL w F n a) : PL w F (n + 1) a := h.mono (Nat.le_succ n)
theorem PL.c (h : PL w F n a) (o : Nat) : w.cell? ⟨F.Q, o, none⟩ = (kcells F a.bl)[o]? := cell_of_row _ F.Q o _ 66 (0, 0) h.st
theorem PL.cq (h : PL w F n a) {i : Nat} (hi : i < a.bl) : w.cell? ⟨F.qb, i, none⟩ = some (qp (F.q i)) := by
  rw [cell_of_row _ F.qb i _ 57 (0, 0) h.qs]
  simp [qrow, hi]
/-- what a call may have made of where locks lie -/
structure Grw (w w' : World) (N : Nat) (F F' : Ft) : Prop where
  q : F'.Q = F.Q
  has : ∀ b, F'.has N b → F.has N b ∨ w.heap.size ≤ b
  g : ∀ b, F'.G b → F.G b ∨ (w.heap.size ≤ b ∧ b < w'.heap.size)
theorem Grw.refl (w w' : World) (N : Nat) (F : Ft) : Grw w w' N F F := ⟨rfl, fun _ h => .inl h, fun _ h => .inl h⟩
end
end Go.Proofs.YtkgjmejpbklabaaGreat.K
namespace Go.Proofs.YtkgjmejpbklabaaGreat.K
open Go.RowKit
theorem up_adj : ∀ (l : List Int), (∀ j, j + 1 < l.length → l.getD j 0 < l.getD (j + 1) 0) → l.Pairwise (· < ·)
  | [], _ => List.Pairwise.nil
  | [x], _ => List.pairwise_singleton _ _
  | x :: y :: r, h => by
    have h1 := up_adj (y :: r) (fun j hj => by have := h (j + 1) (by simp at hj ⊢; omega); simpa using this)
    have h2 : x < y := by have := h 0 (by simp); simpa using this
    refine List.pairwise_cons.2 ⟨fun z hz => ?_, h1⟩
    rcases List.mem_cons.1 hz with e | e
    · omega
    · have := (List.pairwise_cons.1 h1).1 z e; omega
theorem adj_up {l : List Int} (h : l.Pairwise (· < ·)) {j : Nat} (hj : j + 1 < l.length) : l.getD j 0 < l.getD (j + 1) 0 := B.Up.adj h j hj
theorem adj_step {xs : List Int} {k : Nat} (h : ∀ j, j + 1 < k → xs.getD j 0 < xs.getD (j + 1) 0) (hx : xs.getD (k - 1) 0 < xs.getD k 0) : ∀ j, j + 1 < k + 1 → xs.getD j 0 < xs.getD (j + 1) 0 := by
  intro j hj
  by_cases e : j + 1 = k
  · subst e; simpa using hx
  · exact h j (by omega)
set_option maxHeartbeats 1000000 in
set_option maxRecDepth 100000 in
theorem rises_is (p : Option Addr) (n c : Nat) (xs : List Int) (w : World) (h : B.IIn w p n xs) (hn : n ≤ 140737488355328) :
    Calls Tryz.prog 64 #[.slice p n c] w fun e w' => e = .returned (.bool (risS xs)) ∧ ∃ m, w' = w.drewN m := by
  have HH : Hid (B.IIn w p n xs) := h
  clear h
  go_enter Tryz.func64, Tryz.ntmps64
  go_wp2
  go_loopw [3] (fun i wr => ∃ k : Nat, (k ≤ n ∨ k = 1) ∧ 1 ≤ k ∧ i = .int .i64 k ∧ Hid (∀ j, j + 1 < k → xs.getD j 0 < xs.getD (j + 1) 0) ∧ Hid (∃ nq, wr = w.drewN nq)) (fun i _ => n - (intOf i).toNat)
  case atStart => exact ⟨1, .inr rfl, Nat.le_refl _, rfl, fun j hj => absurd hj (by omega), 0, rfl⟩
  case round =>
    obtain ⟨k, hk, hk1, rfl, HT, HW⟩ := hrel
    by_cases hlt : k < n
    · have hlen := HH.out.len
      obtain ⟨b, o, rfl, hcs⟩ := HH.out.cells (by omega)
      have hwc : ∀ a : Addr, wr.cell? a = w.cell? a := fun a => by obtain ⟨nq, rfl⟩ := HW.out; rfl
      have c1 : wr.cell? ⟨b, o + k, none⟩ = some (.int .i64 (xs.getD k 0)) := (hwc _).trans (hcs k hlt)
      have c2 : wr.cell? ⟨b, o + (k - 1), none⟩ = some (.int .i64 (xs.getD (k - 1) 0)) := (hwc _).trans (hcs (k - 1) (by omega))
      have d1 : wr.drew.cell? ⟨b, o + k, none⟩ = some (.int .i64 (xs.getD k 0)) := c1
      have d2 : wr.drew.cell? ⟨b, o + (k - 1), none⟩ = some (.int .i64 (xs.getD (k - 1) 0)) := c2
      have HN : Hid (xs.getD (k - 1) 0 < xs.getD k 0 → ∀ j, j + 1 < k + 1 → xs.getD j 0 < xs.getD (j + 1) 0) := fun e => adj_step HT.out e
      have HY : Hid (¬ xs.getD (k - 1) 0 < xs.getD k 0 → risS xs = false) := fun e => decide_eq_false fun hp => e (by have := adj_up hp (j := k - 1) (by omega); rwa [show k - 1 + 1 = k by omega] at this)
      have i1 : (k : Int) < (n : Int) := by omega
      have i2 : IntKind.i64.wrap ((k : Int) - 1) = ((k - 1 : Nat) : Int) := by rw [IntKind.wrap_i64]; omega
      have i3 : ((k - 1 : Nat) : Int) < (n : Int) := by omega
      clear hcs hlen HH HT hwc hk
      generalize xs.getD k 0 = x at *
      generalize xs.getD (k - 1) 0 = y at *
      generalize hkk : k - 1 = k' at *
      by_cases hx : x ≤ y
      · have E : Hid (risS xs = false) := HY.out (by omega)
        clear HN HY
        have hd := decide_eq_true hx
        go_wp2
        go_quiet (fail)
        go_wp2
        go_ret
        exact ⟨by rw [E.out]; rfl, by obtain ⟨nq, rfl⟩ := HW.out; exact ⟨_, World.drewN_drewN _ _ _⟩⟩
      · have E : Hid (∀ j, j + 1 < k + 1 → xs.getD j 0 < xs.getD (j + 1) 0) := HN.out (by omega)
        clear HN HY
        have hd := decide_eq_false hx
        have HW2 : Hid (∀ m, ∃ nq, wr.drewN m = w.drewN nq) := fun m => by obtain ⟨nq, rfl⟩ := HW.out; exact ⟨_, World.drewN_drewN _ _ m⟩
        go_wp2
        go_quiet (fail)
        go_wp2
        go_roundw
        case rel => exact ⟨k + 1, .inl (by omega), by omega, by go_num, E, HW2.out _⟩
        case measure => simp [intOf]; omega
    · have E : Hid (risS xs = true) := decide_eq_true (up_adj xs fun j hj => HT.out j (by have := HH.out.len; omega))
      go_wp2
      go_ret
      exact ⟨by rw [E.out]; rfl, HW.out⟩
section
variable {w : World} {F : Ft} {n : Nat} {a : Lk}
/-- is it a block -/
def isB (a : Lk) (b : Int) : Bool := decide (0 ≤ b ∧ b < a.bl)
set_option maxHeartbeats 1000000 in
set_option maxRecDepth 100000 in
theorem hasBlock_at (h : PL w F n a) (b : Int) : Calls Tryz.prog 65 #[qp F.Q, .int .i64 b] w fun e w' => e = .returned (.bool (isB a b)) ∧ w = w' := by
  have c0 : w.cell? ⟨F.Q, 0, none⟩ = some (.slice (some ⟨F.qb, 0, none⟩) a.bl a.bl) := h.c 0
  clear h
  by_cases h0 : 0 ≤ b
  · by_cases h1 : b < a.bl
    · have E : Hid (isB a b = true) := decide_eq_true ⟨h0, h1⟩
      go_enter Tryz.func65, Tryz.ntmps65
      go_wp2
      go_ret
      exact ⟨by rw [E.out]; rfl, rfl⟩
    · have E : Hid (isB a b = false) := decide_eq_false (by omega)
      go_enter Tryz.func65, Tryz.ntmps65
      go_wp2
      go_ret
      exact ⟨by rw [E.out]; rfl, rfl⟩
  · have E : Hid (isB a b = false) := decide_eq_false (by omega)
    go_enter Tryz.func65, Tryz.ntmps65
    go_wp2
    go_ret
    exact ⟨by rw [E.out]; rfl, rfl⟩
theorem size_claim : (Tryz.prog.info? 129).map (·.size) = some 2 := by kernel_rfl
theorem results_claim {fn : Func} {p u : Tmp} (h : fn.results = #[.cell p 129, .tmp u]) (tmps : Array Value) (w : World) (g : Nat) (x y : Value) (hp : tmps.getD p undef = .pointer (some ⟨g, 0, none⟩)) (h0 : w.cell? ⟨g, 0, none⟩ = some x) (h1 : w.cell? ⟨g, 1, none⟩ = some y) :
    (results fn tmps).run Tryz.prog w = .ok (.tuple #[.agg #[x, y], tmps.getD u undef]) w := by
  have hr : w.rangeAt g 0 [x, y] := fun j v hv => by
    match j with
    | 0 => simp at hv; subst hv; exact h0
    | 1 => simp at hv; subst hv; exact h1
    | j + 2 => simp at hv
  rw [results_cell_tmp h, hp]
  simp only [asAddr, Sem.run_pure, Result.andThen_ok, run_loadVar_mid w g 0 129 [x, y] _ hr Tryz.underlying129 rfl (by rw [size_claim]; rfl)]
/-- a block of two cells, just laid -/
theorem two_new (w : World) (x y : Value) (ty : TypeId) : (w.alloc (.cells #[x, y] ty)).cell? ⟨w.heap.size, 0, none⟩ = some x ∧ (w.alloc (.cells #[x, y] ty)).cell? ⟨w.heap.size, 1, none⟩ = some y := by
  have h := heap_alloc_new w (.cells #[x, y] ty)
  exact ⟨by rw [cell_of_row _ w.heap.size 0 _ ty (0, 0) h]; rfl, by rw [cell_of_row _ w.heap.size 1 _ ty (0, 0) h]; rfl⟩
set_option maxHeartbeats 1000000 in
set_option maxRecDepth 100000 in
theorem claimOf_nil (w : World) (t : Int) : Calls Tryz.prog 66 #[nilq, .int .u64 t] w fun e w' => e = .returned (.tuple #[noC, .bool false]) ∧ Below w.heap.size w w' := by
  go_enter Tryz.func66, Tryz.ntmps66
  go_wp2
  exact bodyPost_ret (results_claim rfl _ _ w.heap.size _ _ rfl (two_new w _ _ _).1 (two_new w _ _ _).2) rfl ⟨rfl, below_alloc _ _⟩
set_option maxHeartbeats 1000000 in
set_option maxRecDepth 100000 in
theorem claimOf_at (h : PL w F n a) {t : Int} (ht : U64 t) : Calls Tryz.prog 66 #[qp F.Q, .int .u64 t] w fun e w' => ∃ p c, e = .returned (.tuple #[cv (.slice p (ent a.L t).s.length c) (ent a.L t).d, .bool (isIn a.L t)]) ∧ Frm w' (.slice p (ent a.L t).s.length c) (ent a.L t).s ∧ (∀ g, blk (.slice p (ent a.L t).s.length c) = some g → F.G g) ∧ Below w.heap.size w w' := by
  obtain ⟨p, c, e1, e2, e3, e4⟩ := h.cm.ent ht
  have hlk : ∀ o, (Instr.lookup 64 (.map (some F.mb)) (.int .u64 t) true).run Tryz.prog (w.alloc o) = .ok (.tuple #[cv (.slice p (ent a.L t).s.length c) (ent a.L t).d, .bool (isIn a.L t)]) (w.alloc o) := fun o => by
    have := (h.cm.mp.kept (w' := w.alloc o) ((below_alloc w o).block _ h.cm.mp.lt)).run_look ht
    rw [e1, e2] at this
    exact this
  have c2 : w.cell? ⟨F.Q, 2, none⟩ = some (.map (some F.mb)) := h.c 2
  have HF : Hid (Frm w (.slice p (ent a.L t).s.length c) (ent a.L t).s ∧ (∀ g, blk (.slice p (ent a.L t).s.length c) = some g → F.G g)) := ⟨e3, e4⟩
  have hlt : F.Q < w.heap.size := h.lt (.inl rfl)
  clear h e1 e2 e3 e4
  generalize (ent a.L t).s.length = k at *
  generalize (ent a.L t).d = d at *
  go_enter Tryz.func66, Tryz.ntmps66
  go_wp2
  have hb := below_alloc (w.alloc (.cells #[.slice p k c, .int .i64 d] 129)) (.cells #[.slice p k c, .int .i64 d] 129)
  have ht := two_new w (.slice p k c) (.int .i64 d) 129
  refine bodyPost_ret (results_claim rfl _ _ w.heap.size (.slice p k c) (.int .i64 d) rfl ((hb.cell (p := ⟨w.heap.size, 0, none⟩) (by simp)).trans ht.1) ((hb.cell (p := ⟨w.heap.size, 1, none⟩) (by simp)).trans ht.2)) rfl ?_
  exact ⟨p, c, rfl, (HF.out.1.later (below_alloc _ _)).later hb, HF.out.2, below_then (below_alloc _ _) hb⟩
theorem ent_nx {e : En} : B.nextS e.s (e.d : Int) = (e.nx, e.nxB) := by
  unfold B.nextS En.nx En.nxB
  by_cases h : e.d < e.s.length
  · rw [if_pos (by omega), if_pos h, decide_eq_true h]; simp
  · rw [if_neg (by omega), if_neg h, decide_eq_false h]
set_option maxHeartbeats 1000000 in
set_option maxRecDepth 100000 in
theorem next_at (h : PL w F n a) {t : Int} (ht : U64 t) : Calls Tryz.prog 91 #[qp F.Q, .int .u64 t] w fun e w' => e = .returned (.tuple #[.int .i64 (ent a.L t).nx, .bool (ent a.L t).nxB]) ∧ Below w.heap.size w w' := by
  have HE : Hid (B.nextS (ent a.L t).s ((ent a.L t).d : Int) = ((ent a.L t).nx, (ent a.L t).nxB)) := ent_nx
  go_enter Tryz.func91, Tryz.ntmps91
  go_wp2_with (first
    | (go_at_call 66; refine (claimOf_at h ht).mono ?_; rintro e w1 ⟨p, c, rfl, h1, _, h2⟩; have H1 : Hid (Frm w1 (.slice p (ent a.L t).s.length c) (ent a.L t).s ∧ Below w.heap.size w w1) := ⟨h1, h2⟩; clear h1 h2 h)
    | (go_at_call 67; obtain ⟨p', c', e', hI, _, _⟩ := H1.out.1.read; simp only [Value.slice.injEq] at e'; obtain ⟨rfl, _, rfl⟩ := e'; refine (B.next_is _ _ _ (ent a.L t).s _ _ (hI.later (below_alloc _ _))).mono ?_; rw [HE.out]; rintro e w2 ⟨rfl, rfl⟩; clear hI))
  go_ret2
  exact ⟨rfl, below_then H1.out.2 (below_alloc _ _)⟩
set_option maxHeartbeats 1000000 in
set_option maxRecDepth 100000 in
theorem next_nil (w : World) (t : Int) : Calls Tryz.prog 91 #[nilq, .int .u64 t] w fun e w' => e = .returned (.tuple #[.int .i64 0, .bool false]) ∧ Below w.heap.size w w' := by
  go_enter Tryz.func91, Tryz.ntmps91
  go_wp2_with (first
    | (go_at_call 66; refine (claimOf_nil w t).mono ?_; rintro e w1 ⟨rfl, h2⟩; have H1 : Hid (Below w.heap.size w w1) := h2; clear h2)
    | (go_at_call 67; refine (B.next_is _ _ _ [] _ _ (B.IIn.nil _ _)).mono ?_; rintro e w2 ⟨rfl, rfl⟩))
  go_ret2
  exact ⟨rfl, below_then H1.out (below_alloc _ _)⟩
end
end Go.Proofs.YtkgjmejpbklabaaGreat.K
namespace Go.Proofs.YtkgjmejpbklabaaGreat.K
open Go.RowKit
open Go.Shelf
attribute [local go_sem] Oper.semAt_some
/-- what standing hands back: a sequence of these tickets -/
def Std (w : World) (l : Value) (b : Int) (zs : List Int) : Prop := ∀ w1, Below w.heap.size w w1 → Calls Tryz.prog 40 #[l, .int .i64 b] w1 fun e w' => ∃ gf lb, e = .returned (.func (.func gf) #[] lb) ∧
  (∀ args w, (callFunc gf args).run Tryz.prog w = .ok (.enter gf args) w) ∧ Below w1.heap.size w1 w' ∧
  SeqStopsK Fence.wide 8 Tryz.prog gf lb (fun x : Int => #[Value.int .u64 x]) (Below w.heap.size) (fun ys => ys = zs) (fun pre => pre <+: zs) zs.length w'
theorem none_stops (n₀ : Nat) (w : World) : SeqStopsK Fence.wide 8 Tryz.prog 75 #[] (fun x : Int => #[Value.int .u64 x]) (Below n₀) (fun ys => ys = []) (fun pre => pre <+: ([] : List Int)) 0 w := fun l J Jx W hW _ _ hY h0 => by
  refine callsIn_of_wp Tryz.func75 rfl trivial ?_ rfl
  simp only [Tryz.ntmps75, List.size_toArray, List.length_cons, List.length_nil, Nat.reduceAdd, Nat.reduceSub, Array.replicate_succ, Array.replicate_zero, List.push_toArray, List.append_toArray, List.nil_append, List.cons_append]
  gi_wp2
  go_end0
  exact ⟨⟨_, rfl⟩, .inl h0⟩
set_option maxHeartbeats 1000000 in
set_option maxRecDepth 100000 in
theorem std_nil (w : World) (b : Int) : Std w nilq b [] := fun w1 _ => by
  go_enter Tryz.func40, Tryz.ntmps40
  go_wp2
  go_ret
  exact ⟨75, #[], rfl, enters_of Tryz.func75 (by kernel_rfl) rfl, Below.refl _ _, none_stops _ _⟩
section
variable {w : World} {F : Ft} {n : Nat} {a : Lk}
set_option maxHeartbeats 1000000 in
set_option maxRecDepth 100000 in
theorem std_at (h : PL w F n a) (hn : n ≤ 10000) (b : Int) : Std w (qp F.Q) b (qS a.L b) := fun w1 hb1 => by
  have h1 := h.later hb1
  cases hB : isB a b with
  | false =>
    have hz : qS a.L b = [] := h.ok.qout (by simpa [isB] using hB)
    rw [hz]
    go_enter Tryz.func40, Tryz.ntmps40
    go_wp2_with (go_at_call 65; refine (hasBlock_at h1 b).mono ?_; rw [hB]; rintro e w' ⟨rfl, rfl⟩)
    go_ret
    exact ⟨75, #[], rfl, enters_of Tryz.func75 (by kernel_rfl) rfl, Below.refl _ _, none_stops _ _⟩
  | true =>
    have hb : 0 ≤ b ∧ b < a.bl := by simpa [isB] using hB
    obtain ⟨i, rfl⟩ : ∃ i : Nat, b = (i : Int) := ⟨b.toNat, by omega⟩
    have hi : i < a.bl := by omega
    have H1 : Hid (PL w1 F n a) := h1
    have H : Hid (PL w F n a) := h
    have HB1 : Hid (Below w.heap.size w w1) := hb1
    have c0 : w1.cell? ⟨F.Q, 0, none⟩ = some (.slice (some ⟨F.qb, 0, none⟩) a.bl a.bl) := h1.c 0
    have ci : w1.cell? ⟨F.qb, i, none⟩ = some (qp (F.q i)) := h1.cq hi
    have hl : Hid ((qS a.L i).length ≤ 100000) := by
      have h2 := (qS_sub a.L i).length_le
      have h3 : (tix a.L).length = a.L.length := by simp [tix]
      have h4 := h.len
      show _ ≤ _
      omega
    clear h h1 hb1 hb
    go_enter Tryz.func40, Tryz.ntmps40
    go_wp2_with (first | (go_at_call 65; refine (hasBlock_at H1.out _).mono ?_; rw [hB]; rintro e w' ⟨rfl, rfl⟩) | (go_at_call 45; refine (all_is _ _).mono ?_; rintro e w' ⟨rfl, rfl⟩))
    go_ret
    obtain ⟨m, _, hq⟩ := H.out.lq i hi
    refine ⟨77, _, rfl, enters_of Tryz.func77 (by kernel_rfl) rfl, below_alloc _ _, ?_⟩
    have hs := HB1.out.size
    exact all_stops Fence.wide 8 trivial rfl (by decide) w1.heap.size w.heap.size (some ⟨F.q i, 0, none⟩) (qS a.L i) hl.out _ w (by simp) (by simp; omega) (HB1.out.trans ((below_alloc w1 _).mono hs)) rfl (Boxed.cell (Boxed.new w1 57 (qp (F.q i)))) (.inr ⟨F.q i, F.v i, m, rfl, hq⟩)
end
set_option maxRecDepth 100000 in
set_option maxHeartbeats 4000000 in
theorem first_std {w : World} {l : Option Addr} {b : Int} {zs : List Int} (h : Std w (.pointer l) b zs) : Calls Tryz.prog 92 #[.pointer l, .int .i64 b] w fun e w' => e = .returned (.int .u64 (hdv zs)) ∧ Below w.heap.size w w' := by
  refine (callsIn_wide (n := 9)).1 ?_
  refine callsIn_of_wp_marks Tryz.func92 rfl trivial ?_ rfl
  simp only [Tryz.ntmps92, List.size_toArray, List.length_cons, List.length_nil, Nat.reduceAdd, Nat.reduceSub, Array.replicate_succ, Array.replicate_zero, List.push_toArray, List.append_toArray, List.nil_append, List.cons_append]
  gi_wp2_with (refine ⟨trivial, ?_⟩; gi_at_call 40; refine (callsIn_wide.2 (h _ (below_alloc w _))).mono ?_; rintro e W0 ⟨gf, lb, rfl, hen, hb, hseq⟩)
  have bX : Boxed W0 w.heap.size 44 (.int .u64 0) := (hb.block _ (by simp)).trans (Boxed.new w 44 (.int .u64 0))
  have hB0 : Below w.heap.size w W0 := below_then (below_alloc w _) hb
  have hsz : w.heap.size + 1 ≤ W0.heap.size := by have := hb.size; simp at this; omega
  clear hb
  refine wpIn_rangeFunc_ownG (F := Fence.wide) (n := 9) (P := Tryz.prog) rfl (by decide) (gf := gf) (lb := lb) rfl trivial hen
    hseq belowK_t (belowK_b (by omega)) (Below.refl _ _) (fun _ => rfl)
    (fun pre W => (pre = [] ∧ Boxed W w.heap.size 44 (.int .u64 0)) ∧ Below w.heap.size w W)
    (fun c pre W => (c = .ret ∧ ∃ x, pre = [x] ∧ Boxed W w.heap.size 44 (.int .u64 x)) ∧ Below w.heap.size w W)
    ?hI ?hIx ⟨⟨rfl, bX⟩, hB0⟩
    (fun x => { tmps := #[.pointer l, .int .i64 b, undef, undef, .pointer (some ⟨w.heap.size, 0, none⟩), .int .u64 x, .pointer l, .int .i64 b, .func (.func gf) #[] lb, .int .u64 x, undef], defers := [] }) ?assign ?body ?done ?stop
  case hI => exact OwnFrom.and (OwnFrom.and (ownFrom_pure _ _) (Own.from (boxed_own _ _ _) _)) (ownFrom_below (Nat.le_refl _) (by omega))
  case hIx =>
    intro c
    refine OwnFrom.and (fun s V V' row hs hg hr => ?_) (ownFrom_below (Nat.le_refl _) (by omega))
    obtain ⟨hc, x, h1, h2⟩ := hs
    exact ⟨hc, x, h1, boxed_own w.heap.size 44 (fun (_ : Unit) => Value.int .u64 x) () V V' row h2 hg (fun r e => (hr r e).2)⟩
  case assign =>
    intro l x W K hK
    gi_wp2
    exact hK
  case body =>
    rintro l1 pre x W ⟨⟨rfl, hX⟩, hBW⟩ hlt
    have cX := hX.cell
    have fX := hX.frozen
    have HB : Hid (Below w.heap.size w W) := hBW
    have HX : Hid (Boxed W w.heap.size 44 (.int .u64 0)) := hX
    clear hX hBW
    gi_wp2
    exact ⟨(KeepsOthers.setCell _ _ _).from _, ⟨rfl, x, rfl, HX.out.set _⟩, HB.out.setCell (p := ⟨w.heap.size, 0, none⟩) (by simp) _⟩
  case done =>
    rintro D ys W hD hSt ⟨⟨rfl, hX⟩, hB1⟩ hK
    subst hSt
    have cX := hX.cell
    have fX := hX.frozen
    gi_wp2
    have hK2 : (W.setCell ⟨w.heap.size, 0, none⟩ (.int .u64 0)).heap[D]? = some (.deferred (some [])) := (Below.heap_setCell _ _ _ _ (by show D ≠ w.heap.size; omega)).trans hK
    refine ⟨by simp, .inl ⟨_, _, rfl, run_takeDeferred hK2, ?_⟩⟩
    have b2 : Boxed ((W.setCell ⟨w.heap.size, 0, none⟩ (.int .u64 0)).putObj D (.deferred none)) w.heap.size 44 (.int .u64 0) := (World.putObj_heap_other (by omega)).trans (hX.set _)
    exact ⟨_, results_one rfl Tryz.underlying44 rfl _ _ w.heap.size _ rfl b2.cell, rfl, (hB1.setCell (p := ⟨w.heap.size, 0, none⟩) (by simp) _).trans (belowK_b (w := w) (Nat.le_refl _) _ D _ _ (by omega) hK2 rfl rfl)⟩
  case stop =>
    rintro D c pre W hD hpre ⟨⟨rfl, x, rfl, hX⟩, hB1⟩ hK
    have hz : hdv zs = x := by
      obtain ⟨r, rfl⟩ := hpre
      rfl
    have HZ : Hid (hdv zs = x) := hz
    clear hz
    gi_wp2
    refine ⟨by simp, .inl ⟨_, _, rfl, run_takeDeferred hK, ?_⟩⟩
    have b2 : Boxed (W.putObj D (.deferred none)) w.heap.size 44 (.int .u64 x) := (World.putObj_heap_other (by omega)).trans hX
    exact ⟨_, results_one rfl Tryz.underlying44 rfl _ _ w.heap.size _ rfl b2.cell, by rw [HZ.out], hB1.trans (belowK_b (w := w) (Nat.le_refl _) W D _ _ (by omega) hK rfl rfl)⟩
/-- a list of tickets that a call has made -/
structure MadeU (w w' : World) (v : Value) (xs : List Int) : Prop where
  own : w'.ownsRow w.heap.size 44 1 v xs.length (V64 xs)
  below : Below w.heap.size w w'
theorem MadeU.read {w w' : World} {v : Value} {xs : List Int} (h : MadeU w w' v xs) : ∃ p c, v = .slice p xs.length c ∧ UIn w' p xs.length xs ∧ xs.length ≤ c ∧ (p = none → c = 0) := (Row.own h.own).1.form
set_option maxRecDepth 100000 in
set_option maxHeartbeats 4000000 in
theorem queue_std {w : World} {l : Option Addr} {b : Int} {zs : List Int} (h : Std w (.pointer l) b zs) (hn : zs.length ≤ 10000) : Calls Tryz.prog 15 #[.pointer l, .int .i64 b] w fun e w' => ∃ v', e = .returned v' ∧ MadeU w w' v' zs := by
  obtain ⟨i0, hi, hz0, hz1, hz2⟩ := info_parts info26
  refine (callsIn_wide (n := 9)).1 ?_
  refine callsIn_of_wp_marks Tryz.func15 rfl trivial ?_ rfl
  simp only [Tryz.ntmps15, List.size_toArray, List.length_cons, List.length_nil, Nat.reduceAdd, Nat.reduceSub, Array.replicate_succ, Array.replicate_zero, List.push_toArray, List.append_toArray, List.nil_append, List.cons_append]
  gi_wp2_with (refine ⟨trivial, ?_⟩; gi_at_call 40; refine (callsIn_wide.2 (h _ (below_alloc w _))).mono ?_; rintro e W0 ⟨gf, lb, rfl, hen, hb, hseq⟩)
  have bX : Boxed W0 w.heap.size 37 nils := (hb.block _ (by simp)).trans (Boxed.new w 37 nils)
  have hB0 : Below w.heap.size w W0 := below_then (below_alloc w _) hb
  have hsz : w.heap.size + 1 ≤ W0.heap.size := by have := hb.size; simp at this; omega
  clear hb
  refine wpIn_rangeFunc_ownG (F := Fence.wide) (n := 9) (P := Tryz.prog) rfl (by decide) (gf := gf) (lb := lb) rfl trivial hen
    hseq belowK_t (belowK_b (by omega)) (Below.refl _ _) (fun _ => rfl)
    (fun pre W => (∃ v, Boxed W w.heap.size 37 v ∧ W.ownsRow w.heap.size 44 1 v pre.length (V64 pre) ∧ True) ∧ Below w.heap.size w W) (fun c pre W => False)
    (OwnFrom.and (Own.from (holdsRow_own w.heap.size w.heap.size 37 44 1 (fun pre : List Int => pre.length) (fun pre : List Int => V64 pre) (fun _ _ => True)) _) (ownFrom_below (Nat.le_refl _) (by omega))) (fun c => ownFrom_pure _ _)
    ⟨⟨_, bX, World.ownsRow_nil _ _ _ _, trivial⟩, hB0⟩
    (fun x => { tmps := #[.pointer l, .int .i64 b, undef, undef, nils, .pointer (some ⟨w.heap.size, 0, none⟩), .int .u64 x, .pointer l, .int .i64 b, .func (.func gf) #[] lb, .int .u64 x, undef, undef, undef, undef, undef], defers := [] }) ?assign ?body ?done ?stop
  case assign =>
    intro l x W K hK
    gi_wp2
    exact hK
  case body =>
    rintro l pre x W ⟨⟨v, hv, hrow, _⟩, hB⟩ hlt
    have hc := hv.cell
    have hle := hB.size
    have hml : 10001 ≤ maxLen := by decide
    obtain ⟨pv, cv, rfl, _, _, _⟩ := (Row.own hrow).1.form
    gi_wp2_with (gi_at_builtin; refine wpListIn_append_own _ rfl _ _ 37 rfl w.heap.size 44 i0 (.int .u64 0) 1 8 Tryz.underlying37 hi hz0 hz1 hz2 rfl (by decide) _ _ _ rfl (hrow.alloc _) ⟨W.heap.size, 0, none⟩ 1 1 [.int .u64 x] rfl rfl (cell_one_new _ _ _) (by simp [Value.oneCell']) (by omega) (by omega) (by simp; omega) ?_; intro v' w1 hown' hgrow _; obtain ⟨g', cap', rfl⟩ := ownsRow_succ hown'; obtain ⟨hv1, hv2, hr2, hk2, hb2⟩ := hv.appended (by decide) hrow hle (Nat.le_refl _) hown' hgrow; have hc1 := hv1.cell; have hf1 := hv1.frozen; have hc2 := hv2.cell)
    rw [show V64 pre ++ [Value.int .u64 x] = V64 (pre ++ [x]) by simp [V64], show pre.length + 1 = (pre ++ [x]).length by simp] at hr2
    exact ⟨hk2.from _, hb2, ⟨_, hv2, by simpa using hr2, trivial⟩, hB.trans hb2⟩
  case done =>
    rintro D ys W hD hSt ⟨⟨v, hv, hrow, _⟩, hB⟩ hK
    subst hSt
    obtain ⟨pv, cv, rfl, _, _, _⟩ := (Row.own hrow).1.form
    have hc := hv.cell
    have HR : Hid (W.ownsRow w.heap.size 44 1 (.slice pv ys.length cv) ys.length (V64 ys)) := hrow
    have HB : Hid (Below w.heap.size w W) := hB
    clear hrow hB hv
    gi_wp2
    refine ⟨by simp, .inl ⟨_, _, rfl, run_takeDeferred hK, ?_⟩⟩
    exact ⟨_, by simp [results, Tryz.results15, go_sem], _, rfl, ownsRow_putObj HR.out (.deferred none) hK rfl, HB.out.trans (belowK_b (w := w) (Nat.le_refl _) _ D _ _ (by omega) hK rfl rfl)⟩
  case stop =>
    rintro D c pre W hD hpre hf hK
    exact hf.elim
section
variable {w : World} {F : Ft} {n : Nat} {a : Lk}
theorem first_at (h : PL w F n a) (hn : n ≤ 10000) (b : Int) : Calls Tryz.prog 92 #[qp F.Q, .int .i64 b] w fun e w' => e = .returned (.int .u64 (hdv (qS a.L b))) ∧ Below w.heap.size w w' := first_std (std_at h hn b)
theorem PL.qlen (h : PL w F n a) (b : Int) : (qS a.L b).length ≤ n := by
  have h2 := (qS_sub a.L b).length_le
  have h3 : (tix a.L).length = a.L.length := by simp [tix]
  have h4 := h.len
  omega
theorem queue_at (h : PL w F n a) (hn : n ≤ 10000) (b : Int) : Calls Tryz.prog 15 #[qp F.Q, .int .i64 b] w fun e w' => ∃ v', e = .returned v' ∧ MadeU w w' v' (qS a.L b) := queue_std (std_at h hn b) (by have := h.qlen b; omega)
theorem queue_nil (w : World) (b : Int) : Calls Tryz.prog 15 #[nilq, .int .i64 b] w fun e w' => ∃ v', e = .returned v' ∧ MadeU w w' v' [] := queue_std (std_nil w b) (Nat.zero_le _)
theorem first_nil (w : World) (b : Int) : Calls Tryz.prog 92 #[nilq, .int .i64 b] w fun e w' => e = .returned (.int .u64 0) ∧ Below w.heap.size w w' := first_std (std_nil w b)
set_option maxHeartbeats 1000000 in
set_option maxRecDepth 100000 in
theorem ready_at (h : PL w F n a) (hn : n ≤ 10000) {t : Int} (ht : U64 t) : Calls Tryz.prog 68 #[qp F.Q, .int .u64 t] w fun e w' => e = .returned (.bool (rdyS a.L t)) ∧ Below w.heap.size w w' := by
  have HE : Hid (rdyS a.L t = ((ent a.L t).nxB && (hdv (qS a.L (ent a.L t).nx) == t))) := rfl
  have H : Hid (PL w F n a) := h
  clear h
  cases hB : (ent a.L t).nxB with
  | false =>
    rw [hB] at HE
    go_enter Tryz.func68, Tryz.ntmps68
    go_wp2_with (go_at_call 91; refine (next_at H.out ht).mono ?_; rw [hB]; rintro e w1 ⟨rfl, h1⟩; have HB1 : Hid (Below w.heap.size w w1) := h1; clear h1)
    go_ret
    exact ⟨by rw [HE.out]; rfl, HB1.out⟩
  | true =>
    rw [hB] at HE
    have HE2 : Hid (rdyS a.L t = (hdv (qS a.L (ent a.L t).nx) == t)) := HE.out
    clear HE
    generalize hx : (hdv (qS a.L (ent a.L t).nx) == t) = y at *
    go_enter Tryz.func68, Tryz.ntmps68
    go_wp2_with (first
      | (go_at_call 91; refine (next_at H.out ht).mono ?_; rw [hB]; rintro e w1 ⟨rfl, h1⟩; have HB1 : Hid (Below w.heap.size w w1) := h1; clear h1)
      | (go_at_call 92; refine (first_at (H.out.later HB1.out) hn _).mono ?_; rintro e w2 ⟨rfl, h2⟩; have HB2 : Hid (Below w.heap.size w w2) := below_then HB1.out h2; clear h2))
    go_ret
    exact ⟨by rw [HE2.out]; rfl, HB2.out⟩
set_option maxHeartbeats 1000000 in
set_option maxRecDepth 100000 in
theorem ready_nil (w : World) (t : Int) : Calls Tryz.prog 68 #[nilq, .int .u64 t] w fun e w' => e = .returned (.bool false) ∧ Below w.heap.size w w' := by
  go_enter Tryz.func68, Tryz.ntmps68
  go_wp2_with (go_at_call 91; refine (next_nil w t).mono ?_; rintro e w1 ⟨rfl, h1⟩; have HB1 : Hid (Below w.heap.size w w1) := h1; clear h1)
  go_ret
  exact ⟨rfl, HB1.out⟩
end
end Go.Proofs.YtkgjmejpbklabaaGreat.K
namespace Go.Proofs.YtkgjmejpbklabaaGreat.K
open Go.RowKit
theorem IIn.take {w : World} {p : Option Addr} {f : List Int} (h : B.IIn w p f.length f) (d : Nat) (hd : d ≤ f.length) : B.IIn w p d (f.take d) := by
  refine ⟨by simp; omega, fun h0 => ?_⟩
  obtain ⟨b, o, rfl, hc⟩ := h.cells (by omega)
  refine ⟨b, o, rfl, fun i hi => ?_⟩
  rw [hc i (by omega)]
  simp [List.getD, hi]
set_option maxHeartbeats 1000000 in
set_option maxRecDepth 100000 in
theorem cloneI_nil (w : World) : Calls Tryz.prog 61 #[nils] w fun e w' => e = .returned nils ∧ w' = w := by
  have hnn : ∀ w : World, (binOp BinOp.eql 72 (.slice none 0 0) (.slice none 0 0)).run Tryz.prog w = .ok (.bool true) w := fun w => by kernel_rfl
  go_enter Tryz.func61, Tryz.ntmps61
  go_wp2
  go_ret
  exact ⟨rfl, rfl⟩
theorem empty_own (w : World) : (w.alloc (.cells #[] 3)).ownsRow w.heap.size 3 1 (.slice (some ⟨w.heap.size, 0, none⟩) 0 0) 0 [] := ⟨rfl, .inr ⟨w.heap.size, 0, #[], rfl, Nat.le_refl _, heap_alloc_new w _, Nat.le_refl _, Nat.zero_le _, rfl, rfl⟩⟩
set_option maxHeartbeats 1000000 in
set_option maxRecDepth 100000 in
/-- slices.Clone: of nil nil -/
theorem cloneI_at {w : World} {p : Option Addr} {k c : Nat} {f : List Int} (hI : B.IIn w p k f) (hkc : k ≤ c) (hp0 : p = none → c = 0) (hk : k * 8 ≤ 140737488355328) : Calls Tryz.prog 61 #[.slice p k c] w fun e w' => ∃ q d, e = .returned (.slice q k d) ∧ B.Made w w' q k d f := by
  cases p with
  | none =>
    obtain rfl := hp0 rfl
    obtain rfl : k = 0 := by omega
    obtain rfl : f = [] := List.eq_nil_of_length_eq_zero hI.len
    refine (cloneI_nil w).mono ?_
    rintro e w' ⟨rfl, rfl⟩
    exact ⟨none, 0, rfl, B.made_nil _ (Below.refl _ _)⟩
  | some ad =>
    obtain ⟨i0, hi, hz0, hz1, hz2⟩ := info_parts B.info3
    have hml : 17592186044416 ≤ maxLen := by decide
    have HI : Hid (B.IIn w (some ad) k f) := hI
    clear hI
    have hnn : ∀ w : World, (binOp BinOp.eql 72 (.slice (some ad) k c) (.slice none 0 0)).run Tryz.prog w = .ok (.bool false) w := fun w => by kernel_rfl
    go_enter Tryz.func61, Tryz.ntmps61
    go_wp2_with (at_builtin; (refine B.wpList_append_any _ rfl (.tmp 5) (.tmp 6) 72 rfl w.heap.size 3 i0 (.int .i64 0) 8 Tryz.underlying72 hi hz0 hz1 hz2 rfl (.slice (some ⟨w.heap.size, 0, none⟩) 0 0) 0 [] rfl (empty_own w) (some ad) k c (B.I64 f) rfl hp0 hkc (by simpa using HI.out.len) ((HI.out.later (below_alloc w _)).newsAny) (B.ones_i64 f) (by omega) (by omega) (by simp) ?_; intro v2 w2 r2 k2; have R2 : Hid (w2.ownsRow w.heap.size 3 1 v2 k (B.I64 f) ∧ (w.alloc (.cells #[] 3)).grownBy w2 (some w.heap.size)) := ⟨by simpa using r2, k2⟩; clear r2 k2))
    go_ret
    have hb : Below w.heap.size w w2 := (Kept.of_grown R2.out.2).into (below_alloc w _) (fun b hb e => by omega) (Nat.le_refl _)
    obtain ⟨q, d, rfl, hm⟩ := B.made_of R2.out.1 hb
    exact ⟨q, d, rfl, hm⟩
section
variable {w : World} {F : Ft} {n : Nat} {a : Lk}
theorem held_len {e : En} (h : e.d ≤ e.s.length) : e.held.length = e.d := by simp [En.held]; omega
theorem PL.hdU (h : PL w F n a) (b : Int) : U64 (hdv (qS a.L b)) := by
  cases hq : qS a.L b with
  | nil => exact u64_small (by simp [hdv]) (by simp [hdv])
  | cons x r =>
    obtain ⟨e, he, _, rfl⟩ := qS_mem.1 (show x ∈ qS a.L b by rw [hq]; simp)
    have h1 := h.ok.pos e he
    have h2 := h.ok.top e he
    have h3 := h.ok.lastU
    exact u64_small (by show 0 ≤ e.t; omega) (by show e.t ≤ _; omega)
end
end Go.Proofs.YtkgjmejpbklabaaGreat.K
