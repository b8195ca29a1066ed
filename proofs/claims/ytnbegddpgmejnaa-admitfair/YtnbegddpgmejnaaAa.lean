/-
  Layer 13: maps of lists; how a line lies.
-/
import Derived.Test.YtnbegddpgmejnaaTf
import Derived.Test.YtnbegddpgmejnaaLc
import Derived.Test.YtnbegddpgmejnaaEa
import Derived.Test.YtnbegddpgmejnaaAm
import Derived.Test.YtnbegddpgmejnaaSu
namespace Go.Proofs.Ytnbegddpgmejnaa
open Go.RowKit


open Go.Maps (Keyed)
/-- what stands in a map of lists: the list's value itself -/
def vElem (v : Value) : Option (DataW Value × List MemPlace) := some (.held v, [])
abbrev nils : Value := .slice none 0 0
theorem zeroF (w : World) : (zeroValue 31).run Try.prog w = .ok nils w := by kernel_rfl
/-- block b is a map that reads as m -/
def VMp (w : World) (b n : Nat) (m : Int → Option Value) : Prop := ∃ D : DataW Value, w.ownsMap Try.prog 30 vElem b n D ∧ ∀ t, L.U64 t → Maps.has D (.int .u64 t) = (m t).isSome ∧ D.atKey (.int .u64 t) (.held nils) = .held ((m t).getD nils)
theorem VMp.typ {w : World} {b n : Nat} {m : Int → Option Value} (h : VMp w b n m) : ∃ es clock, w.heap[b]? = some (.map es clock) := by
  obtain ⟨D, ⟨es, clock, hb, _⟩, _⟩ := h
  exact ⟨es, clock, hb⟩
theorem VMp.lt {w : World} {b n : Nat} {m : Int → Option Value} (h : VMp w b n m) : b < w.heap.size := by
  obtain ⟨es, clock, hb⟩ := h.typ
  exact (Array.getElem?_eq_some_iff.1 hb).1
theorem VMp.kept {w w' : World} {b n : Nat} {m : Int → Option Value} (h : VMp w b n m) (hk : w'.heap[b]? = w.heap[b]?) : VMp w' b n m := by
  obtain ⟨D, ⟨es, clock, hb, r⟩, hD⟩ := h
  exact ⟨D, ⟨es, clock, hk.trans hb, r⟩, hD⟩
theorem VMp.mono {w : World} {b n k : Nat} {m : Int → Option Value} (h : VMp w b n m) (hm : n ≤ k) : VMp w b k m := by
  obtain ⟨D, ho, hD⟩ := h
  exact ⟨D, ho.mono hm, hD⟩
theorem VMp.made (w : World) : VMp (w.alloc (.map #[] 0)) w.heap.size 0 (fun _ => none) := ⟨_, World.ownsMap_made w _ _ _, fun _ _ => ⟨rfl, rfl⟩⟩
/-- 'm[k]' -/
theorem VMp.run_look {w : World} {b n : Nat} {m : Int → Option Value} (h : VMp w b n m) {t : Int} (ht : L.U64 t) :
    (Instr.lookup 64 (.map (some b)) (.int .u64 t) false).run Try.prog w = .ok ((m t).getD nils) w := by
  obtain ⟨D, ho, hD⟩ := h
  obtain ⟨v, ps, hrun, hv⟩ := ho.lookup L.key30 Try.underlying64 (zeroF w) (zd := .held nils) (zp := []) rfl ht.key
  rw [(hD t ht).2] at hv
  simp only [vElem, Option.some.injEq, Prod.mk.injEq, DataW.held.injEq] at hv
  rw [hrun, hv.1]
/-- 'm[k] = v' -/
theorem VMp.run_put {w : World} {b n : Nat} {m : Int → Option Value} (h : VMp w b n m) (hn : n < 10000) {t : Int} (ht : L.U64 t) (v : Value) :
    ∃ w', (Instr.mapUpdate 64 (.map (some b)) (.int .u64 t) v).run Try.prog w = .ok () w' ∧ VMp w' b (n + 1) (fun u => if u = t then some v else m u) ∧ Kept (· = b) w w' := by
  obtain ⟨D, ho, hD⟩ := h
  have hml : 10000 ≤ maxLen := by decide
  obtain ⟨w', hrun, h1, h2⟩ := ho.store (val := v) (d := .held v) (ps := []) L.key30 Try.underlying64 (by omega) ht.key rfl
  refine ⟨w', hrun, ⟨_, h1, fun u hu => ?_⟩, L.Kept.of_grown h2.grown⟩
  dsimp only
  by_cases e : u = t
  · subst e
    rw [if_pos rfl, Maps.has_put_same ho.isMap (L.key30.key ht.key), Maps.atKey_put_same ho.isMap (L.key30.key ht.key)]
    exact ⟨rfl, rfl⟩
  · have hne : (Lit.int .u64 u) ≠ Lit.int .u64 t := fun e2 => e (by injection e2)
    rw [if_neg e, Maps.has_put_other hne, Maps.atKey_put_other hne]
    exact hD u hu
/-- 'delete(m, k)' -/
theorem VMp.run_del {w : World} {b n : Nat} {m : Int → Option Value} (h : VMp w b n m) {t : Int} (ht : L.U64 t) (ty : TypeId) :
    ∃ w', (Builtin.delete_ #[64, 30] ty #[.map (some b), .int .u64 t]).run Try.prog w = .ok (.tuple #[]) w' ∧ VMp w' b n (fun u => if u = t then none else m u) ∧ Kept (· = b) w w' := by
  obtain ⟨D, ho, hD⟩ := h
  obtain ⟨w', hrun, h1, h2⟩ := ho.drop L.key30 Try.underlying64 ht.key ty
  refine ⟨w', hrun, ⟨_, h1, fun u hu => ?_⟩, L.Kept.of_grown h2.grown⟩
  dsimp only
  by_cases e : u = t
  · subst e
    rw [if_pos rfl, Maps.has_del_same, Maps.atKey_del_same]
    exact ⟨rfl, rfl⟩
  · have hne : (Lit.int .u64 u) ≠ Lit.int .u64 t := fun e2 => e (by injection e2)
    rw [if_neg e, Maps.has_del_other hne, Maps.atKey_del_other hne]
    exact hD u hu
theorem wpList_delete_v {w : World} {b n : Nat} {ops : Array Oper} {rest : List Oper} {o : Oper} {a : Act} {R : Exit → Act → World → Prop} (hg : o.guard = none) (m x : Operand) (hop : o.op = Op.call { callee := Callee.builtin Builtin.delete, args := #[m, x], argTypes := #[64, 30] })
    (M : Int → Option Value) (hm : a.eval m = .map (some b)) (h : VMp w b n M) (t : Int) (ht : L.U64 t) (hx : a.eval x = .int .u64 t)
    (hK : ∀ w', VMp w' b n (fun u => if u = t then none else M u) → Kept (· = b) w w' → wpList Try.prog ops R rest (a.put o.dst (.tuple #[])) w') :
    wpList Try.prog ops R (o :: rest) a w := by
  refine wpList_plain hg fun K hK' => ?_
  obtain ⟨w', hr, h2, h3⟩ := h.run_del ht o.type
  unfold Oper.wp
  simp [execOp, hop, resolve, invoke, builtin, hm, hx, hr, Result.andThen]
  exact hK' _ _ (hK w' h2 h3)
def Try.cloneF_ren : Go.Shelf.Ren := ⟨fun | 5 => 46 | 7 => 61 | n => n, fun | 23 => 64 | 25 => 30 | 3 => 31 | 4 => 4 | 20 => 20 | n => n, fun | n => n⟩
theorem Try.cloneF : Go.Proofs.SlLaysW.n5 Try.prog Try.cloneF_ren := {
  mixed := by kernel_rfl
  f5 := ⟨Try.f46.name, by decide, Try.func46.trans (congrArg some (by kernel_rfl))⟩
  f7 := Try.func61.trans (congrArg some (by kernel_rfl))
  t4 := Try.underlying4
  a4 := Try.isAgg4
  z4 := Try.sizeOf4
  v4 := Try.zeroValue4
  t20 := Try.underlying20
  a20 := Try.isAgg20
  z20 := Try.sizeOf20
  v20 := Try.zeroValue20
  t23 := Try.underlying64
  a23 := Try.isAgg64
  z23 := Try.sizeOf64
  v23 := Try.zeroValue64 }
theorem cloneF_at {w : World} {b n : Nat} {m : Int → Option Value} (h : VMp w b n m) : Calls Try.prog 46 #[.map (some b)] w fun e w' => e = .returned (.map (some w.heap.size)) ∧ VMp w' w.heap.size n m ∧ Below w.heap.size w w' := by
  obtain ⟨D, ho, hD⟩ := h
  have hcon := Go.Proofs.AnyW.maps_Clone_owns Try.cloneF 30 _ b n D w ho
  change Calls Try.prog 46 _ _ _ at hcon
  exact hcon.mono fun e w' ⟨h1, h2, _, h4⟩ => ⟨h1, ⟨D, h2, hD⟩, h4⟩

/-- what kind of block it is -/
def kd (w : World) (b : Nat) : Nat := match w.heap[b]? with | some (.cells _ ty _) => ty | some (.map _ _) => 100000 | _ => 100001
theorem ne_kd {w : World} {a b x y : Nat} (h1 : kd w a = x) (h2 : kd w b = y) (hxy : x ≠ y) : a ≠ b := fun e => hxy (by rw [← h1, ← h2, e])
theorem kd_cells {w : World} {b : Nat} {cs : Array Value} {ty : TypeId} {z : Nat × Nat} (h : w.heap[b]? = some (.cells cs ty z)) : kd w b = ty := by simp only [kd, h]
theorem kd_map {w : World} {b : Nat} (h : ∃ es clock, w.heap[b]? = some (.map es clock)) : kd w b = 100000 := by
  obtain ⟨es, clock, h⟩ := h
  simp only [kd, h]

/-- a form as it is kept: a row of its own -/
def Frm (w : World) (v : Value) (f : List Int) : Prop := w.ownsRow 0 3 1 v f.length (B.I64 f)
theorem Frm.later {w w' : World} {v : Value} {f : List Int} (h : Frm w v f) (hb : Below w.heap.size w w') : Frm w' v f := B.own_later h hb
theorem Frm.of_made {w w' : World} {p : Option Addr} {c : Nat} {f : List Int} (h : B.Made w w' p f.length c f) : Frm w' (.slice p f.length c) f := B.own_mono h.own (Nat.zero_le _)
theorem Frm.far {w w' : World} {v : Value} {f : List Int} {S : Nat → Prop} (h : Frm w v f) (hk : Kept S w w') (hS : ∀ g, blk v = some g → kd w g = 3 → ¬ S g) : Frm w' v f := by
  refine ⟨h.1, ?_⟩
  rcases h.2 with h2 | ⟨g, cap, cur, e, h1, hg, r⟩
  · exact .inl h2
  · exact .inr ⟨g, cap, cur, e, h1, (hk.block g (Array.getElem?_eq_some_iff.1 hg).1 (hS g (by rw [e]; rfl) (kd_cells hg))).trans hg, r⟩
theorem Frm.read {w : World} {v : Value} {f : List Int} (h : Frm w v f) : ∃ p c, v = .slice p f.length c ∧ B.IIn w p f.length f ∧ f.length ≤ c ∧ (p = none → c = 0) := by
  obtain ⟨p, c, e, h1, h2, h3, _⟩ := B.ints_in h
  exact ⟨p, c, e, h1, h2, h3⟩
theorem Frm.nil (w : World) : Frm w nils [] := World.ownsRow_nil _ _ _ _

/-- a map of forms: of each of these tickets its form -/
def FM (w : World) (G : Nat → Prop) (b n : Nat) (l : List (Int × List Int)) : Prop := ∃ m, VMp w b n m ∧ (∀ t v, m t = some v → ∃ p n c, v = .slice p n c) ∧ ∀ x ∈ l, ∃ v, m x.1 = some v ∧ Frm w v x.2 ∧ ∀ g, blk v = some g → G g
theorem FM.typ {w : World} {G : Nat → Prop} {b n : Nat} {l : List (Int × List Int)} (h : FM w G b n l) : ∃ es clock, w.heap[b]? = some (.map es clock) := by
  obtain ⟨m, h, _⟩ := h
  exact h.typ
theorem FM.lt {w : World} {G : Nat → Prop} {b n : Nat} {l : List (Int × List Int)} (h : FM w G b n l) : b < w.heap.size := by
  obtain ⟨m, h, _⟩ := h
  exact h.lt
theorem FM.far {w w' : World} {G : Nat → Prop} {b n : Nat} {l : List (Int × List Int)} {S : Nat → Prop} (h : FM w G b n l) (hk : Kept S w w') (hb : ¬ S b) (hS : ∀ g, G g → kd w g = 3 → ¬ S g) : FM w' G b n l := by
  obtain ⟨m, h1, hs, h2⟩ := h
  refine ⟨m, h1.kept (hk.block b h1.lt hb), hs, fun x hx => ?_⟩
  obtain ⟨v, hv, hf, hG⟩ := h2 x hx
  exact ⟨v, hv, hf.far hk (fun g hg => hS g (hG g hg)), hG⟩
theorem FM.mono {w : World} {G : Nat → Prop} {b n k : Nat} {l : List (Int × List Int)} (h : FM w G b n l) (hk : n ≤ k) : FM w G b k l := by
  obtain ⟨m, h1, hs, h2⟩ := h
  exact ⟨m, h1.mono hk, hs, h2⟩
theorem FM.sub {w : World} {G : Nat → Prop} {b n : Nat} {l l' : List (Int × List Int)} (h : FM w G b n l) (hs : ∀ x ∈ l', x ∈ l) : FM w G b n l' := by
  obtain ⟨m, h1, h0, h2⟩ := h
  exact ⟨m, h1, h0, fun x hx => h2 x (hs x hx)⟩

/-- where a line lies -/
structure Ft where
  Q : Nat
  q1 : Nat
  q2 : Nat
  mb : Nat
  lb : Nat
  lm : Nat
  v1 : Value
  v2 : Value
  G : Nat → Prop
def Ft.has (F : Ft) (b : Nat) : Prop := b = F.Q ∨ b = F.q1 ∨ b = F.q2 ∨ blk F.v1 = some b ∨ blk F.v2 = some b ∨ b = F.mb ∨ b = F.lb ∨ b = F.lm
/-- all forms of a line -/
def Ad.fl (a : Ad) : List (Int × List Int) := a.W ++ a.I.map fun x => (x.1, x.2.1)
abbrev lcells (F : Ft) (a : Ad) : Array Value := #[.int .i64 a.bl, .int .i64 a.lc, .int .i64 a.mr, .int .i64 a.hi, .int .i64 a.cl, .int .u64 a.next, qp F.q1, qp F.q2, .map (some F.mb), qp F.lb]
structure PL (w : World) (F : Ft) (n : Nat) (a : Ad) : Prop where
  st : w.heap[F.Q]? = some (.cells (lcells F a) 66 (0, 0))
  l1 : QAt 63 w F.q1 F.v1 (wt a.W) (a.next - 1)
  l2 : QAt 63 w F.q2 F.v2 (it a.I) a.got
  fm : FM w F.G F.mb n a.fl
  rm : L.LAt w F.lb F.lm n a.lg
  ok : a.Ok
  q12 : F.q1 ≠ F.q2
  v12 : ∀ g, blk F.v1 = some g → ¬ blk F.v2 = some g
  mm : F.mb ≠ F.lm
section
variable {w w' : World} {F : Ft} {n : Nat} {a : Ad}
theorem Row.kd {v : Value} {xs : List Int} (h : Row w v xs) {g : Nat} (hg : blk v = some g) : kd w g = 30 := by
  obtain ⟨cur, hc⟩ := h.typ hg
  exact kd_cells hc
theorem PL.kQ (h : PL w F n a) : kd w F.Q = 66 := kd_cells h.st
theorem PL.k1 (h : PL w F n a) : kd w F.q1 = 63 := kd_cells h.l1.st
theorem PL.k2 (h : PL w F n a) : kd w F.q2 = 63 := kd_cells h.l2.st
theorem PL.kv1 (h : PL w F n a) {g : Nat} (hg : blk F.v1 = some g) : kd w g = 30 := h.l1.row.kd hg
theorem PL.kv2 (h : PL w F n a) {g : Nat} (hg : blk F.v2 = some g) : kd w g = 30 := h.l2.row.kd hg
theorem PL.km (h : PL w F n a) : kd w F.mb = 100000 := kd_map h.fm.typ
theorem PL.kl (h : PL w F n a) : kd w F.lb = 92 := kd_cells h.rm.st
theorem PL.kn (h : PL w F n a) : kd w F.lm = 100000 := kd_map h.rm.mp.typ
/-- no block of a line is a row of numbers -/
theorem PL.noInts (h : PL w F n a) {b : Nat} (hb : kd w b = 3) : ¬ F.has b := by
  rintro (rfl | rfl | rfl | e | e | rfl | rfl | rfl)
  · rw [h.kQ] at hb; cases hb
  · rw [h.k1] at hb; cases hb
  · rw [h.k2] at hb; cases hb
  · rw [h.kv1 e] at hb; cases hb
  · rw [h.kv2 e] at hb; cases hb
  · rw [h.km] at hb; cases hb
  · rw [h.kl] at hb; cases hb
  · rw [h.kn] at hb; cases hb
theorem PL.lt (h : PL w F n a) {b : Nat} (hb : F.has b) : b < w.heap.size := by
  rcases hb with rfl | rfl | rfl | e | e | rfl | rfl | rfl
  · exact (Array.getElem?_eq_some_iff.1 h.st).1
  · exact h.l1.lt
  · exact h.l2.lt
  · exact h.l1.row.lt e
  · exact h.l2.row.lt e
  · exact h.fm.lt
  · exact h.rm.lt
  · exact h.rm.mp.lt
theorem PL.far {S : Nat → Prop} (h : PL w F n a) (hk : Kept S w w') (hF : ∀ b, F.has b → ¬ S b) (hS : ∀ g, F.G g → kd w g = 3 → ¬ S g) : PL w' F n a :=
  ⟨(hk.block _ (h.lt (.inl rfl)) (hF _ (.inl rfl))).trans h.st, h.l1.far hk (hF _ (.inr (.inl rfl))) (fun g hg => hF g (.inr (.inr (.inr (.inl hg))))), h.l2.far hk (hF _ (.inr (.inr (.inl rfl)))) (fun g hg => hF g (.inr (.inr (.inr (.inr (.inl hg)))))),
    h.fm.far hk (hF _ (.inr (.inr (.inr (.inr (.inr (.inl rfl))))))) hS, h.rm.kept (hk.block _ h.rm.lt (hF _ (.inr (.inr (.inr (.inr (.inr (.inr (.inl rfl))))))))) (hk.block _ h.rm.mp.lt (hF _ (.inr (.inr (.inr (.inr (.inr (.inr (.inr rfl))))))))), h.ok, h.q12, h.v12, h.mm⟩
theorem PL.later (h : PL w F n a) (hb : Below w.heap.size w w') : PL w' F n a := h.far (Kept.of_below (fun _ => False) hb) (fun _ _ => id) (fun _ _ _ => id)
theorem PL.drawn (h : PL w F n a) (nq : Nat) : PL (w.drewN nq) F n a := h.later (below_drawn nq)
theorem PL.mono {k : Nat} (h : PL w F n a) (hk : n ≤ k) : PL w F k a := ⟨h.st, h.l1, h.l2, h.fm.mono hk, h.rm.mono hk, h.ok, h.q12, h.v12, h.mm⟩
theorem PL.c (h : PL w F n a) (o : Nat) : w.cell? ⟨F.Q, o, none⟩ = (lcells F a)[o]? := cell_of_row _ F.Q o _ 66 (0, 0) h.st
theorem PL.free (h : PL w F n a) (o : Nat) : w.frozen? ⟨F.Q, o, none⟩ = false := by simp [World.frozen?, h.st]
end
end Go.Proofs.Ytnbegddpgmejnaa
