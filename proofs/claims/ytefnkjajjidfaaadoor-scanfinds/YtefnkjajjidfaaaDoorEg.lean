/-
  Layer 10, the functions: Newest: the map that it makes; the keys in their order.
-/
import Derived.Test.YtefnkjajjidfaaaDoorEa
import Derived.Test.YtefnkjajjidfaaaDoorSl
import Derived.Test.YtefnkjajjidfaaaDoorEd
import Derived.Maps.OwnSet
import Derived.Lib.SlKeysI
namespace Go.Proofs.YtefnkjajjidfaaaDoor
open Go.RowKit Go.Maps


section
variable {P : Program} {ops : Array Oper} {rest : List Oper} {o : Oper} {a : Act} {w w' : World} {Q : Exit → Act → World → Prop}
theorem wpList_slice_is (hgd : Region.wanted o (yielded ops a.tmps) = true) (ty : TypeId) {x : Operand} (ho : o.op = .buildSlice ty 1 #[(0, x)]) {u v : Value} (hx : a.eval x = u) (hrun : (Instr.buildSlice ty 1 #[(0, u)]).run P w = .ok v w') (h : wpList P ops Q rest (a.put o.dst v) w') : wpList P ops Q (o :: rest) a w :=
  wpList_val hgd (by
    have e : (#[(0, x)] : Array (Nat × Operand)).map (fun (i, y) => (i, a.eval y)) = #[(0, u)] := by simp [hx]
    unfold execOp; simp only [ho]; rw [e]; simp only [Sem.run_bind, hrun, Result.andThen_ok, Sem.run_pure]) h
theorem wpList_append_is (hgd : Region.wanted o (yielded ops a.tmps) = true) {s x : Operand} {t ty : TypeId} (ho : o.op = .call { callee := .builtin .append, args := #[s, x], argTypes := #[t, t] }) (hty : o.type = ty) {u1 u2 v : Value} (hs : a.eval s = u1) (hx : a.eval x = u2) (hrun : (Builtin.append_ #[t, t] ty #[u1, u2]).run P w = .ok v w') (h : wpList P ops Q rest (a.put o.dst v) w') : wpList P ops Q (o :: rest) a w :=
  wpList_val hgd (by subst hty; simp [execOp, ho, resolve, invoke, builtin, hs, hx, hrun, Result.andThen]) h
theorem wpList_lookup_is (hgd : Region.wanted o (yielded ops a.tmps) = true) (ty : TypeId) {m x : Operand} (ho : o.op = .lookup ty m x false) {u1 u2 v : Value} (hm : a.eval m = u1) (hx : a.eval x = u2) (hrun : (Instr.lookup ty u1 u2 false).run P w = .ok v w) (h : wpList P ops Q rest (a.put o.dst v) w) : wpList P ops Q (o :: rest) a w :=
  wpList_val hgd (by unfold execOp; simp only [ho, hm, hx, Sem.run_bind, hrun, Result.andThen_ok, Sem.run_pure]) h
end
/-- the map after images, one behind the other -/
abbrev kI (b : Int) : Lit := .int .i64 b
abbrev hV (v : List Int) : DataW Value := .held (.agg (U8 v).toArray)
def mapD (l : List Im) : DataW Value := l.foldl (fun D x => D.put (kI x.b) (hV x.v)) (.map [])
theorem mapD_snoc (l : List Im) (x : Im) : mapD (l ++ [x]) = (mapD l).put (kI x.b) (hV x.v) := by simp [mapD]
theorem snoc_ind {α : Type} {p : List α → Prop} (h0 : p []) (h1 : ∀ l x, p l → p (l ++ [x])) (l : List α) : p l := by
  have : ∀ m : List α, p m.reverse := fun m => by
    induction m with
    | nil => exact h0
    | cons x m ih => rw [List.reverse_cons]; exact h1 _ _ ih
  have e := this l.reverse
  rwa [List.reverse_reverse] at e
theorem mem_ins (x : Lit × DataW Value) (p : Lit × DataW Value) : ∀ l, p ∈ DataW.insert x l ↔ p = x ∨ p ∈ l
  | [] => by simp [DataW.insert]
  | y :: r => by
    unfold DataW.insert
    by_cases h : x.1.before y.1 = true
    · rw [if_pos h]; exact List.mem_cons
    · rw [if_neg h, List.mem_cons, mem_ins x p r, List.mem_cons]
      exact or_left_comm
theorem mapD_es (l : List Im) : ∃ es, mapD l = .map es ∧ ∀ p ∈ es, ∃ y, p.1 = kI y := by
  refine snoc_ind (p := fun l => ∃ es, mapD l = .map es ∧ ∀ p ∈ es, ∃ y, p.1 = kI y) ⟨[], rfl, fun p h => by cases h⟩ (fun l x h => ?_) l
  obtain ⟨es, e, hk⟩ := h
  refine ⟨_, by rw [mapD_snoc, e]; rfl, fun p hp => ?_⟩
  rcases (mem_ins _ _ _).1 hp with rfl | hp
  · exact ⟨x.b, rfl⟩
  · exact hk p (List.mem_filter.1 hp).1
theorem mapD_isMap (l : List Im) : IsMap (mapD l) := by obtain ⟨es, e, _⟩ := mapD_es l; exact ⟨es, e⟩
theorem kI_ne {a b : Int} (h : a ≠ b) : kI a ≠ kI b := fun e => h (by injection e)
theorem mapD_has (b : Int) : ∀ l, Maps.has (mapD l) (kI b) = decide (b ∈ blks l) := by
  refine snoc_ind (by simp [mapD, Maps.has]) fun l x ih => ?_
  rw [mapD_snoc]
  by_cases h : x.b = b
  · rw [← h, Maps.has_put_same (k := kI x.b) (mapD_isMap l) trivial]; simp
  · rw [Maps.has_put_other (kI_ne fun e => h e.symm), ih]
    simp only [blks, List.map_append, List.map_cons, List.map_nil, List.mem_append, List.mem_singleton]
    by_cases hb : b ∈ l.map (·.b)
    · simp [hb]
    · rw [decide_eq_false hb, decide_eq_false]; rintro (k | k)
      · exact hb k
      · exact h k.symm
theorem mapD_at (b : Int) (z : DataW Value) : ∀ l, b ∈ blks l → (mapD l).atKey (kI b) z = hV (lastV l b) := by
  refine snoc_ind (fun h => by cases h) fun l x ih hb => ?_
  rw [mapD_snoc, lastV_snoc]
  by_cases h : x.b = b
  · rw [if_pos h, ← h, Maps.atKey_put_same (k := kI x.b) (mapD_isMap l) trivial]
  · rw [if_neg h, Maps.atKey_put_other (kI_ne fun e => h e.symm)]
    refine ih ?_
    simp only [blks, List.map_append, List.map_cons, List.map_nil, List.mem_append, List.mem_singleton] at hb
    rcases hb with hb | hb
    · exact hb
    · exact absurd hb.symm h
theorem mapD_keys (l : List Im) (b : Int) : b ∈ intKeys (mapD l) ↔ b ∈ blks l := by
  have hh := mapD_has b l
  obtain ⟨es, e, hk⟩ := mapD_es l
  rw [e] at hh ⊢
  rw [Maps.has_eq] at hh
  constructor
  · intro hb
    obtain ⟨p, hp, e2⟩ := List.mem_map.1 (show b ∈ es.map fun p => Go.intOf p.1 from hb)
    obtain ⟨y, hy⟩ := hk p hp
    have : (es.any fun p => p.1.sameKey (kI b)) = true := List.any_eq_true.2 ⟨p, hp, by rw [hy] at e2 ⊢; have : y = b := e2; subst this; exact WideAt.sameKey_self (a := kI y) trivial⟩
    rw [this] at hh
    exact of_decide_eq_true hh.symm
  · intro hb
    rw [decide_eq_true hb] at hh
    obtain ⟨p, hp, e2⟩ := List.any_eq_true.1 hh
    obtain ⟨y, hy⟩ := hk p hp
    refine List.mem_map.2 ⟨p, hp, ?_⟩
    rw [hy] at e2 ⊢
    show y = b
    by_cases c : y = b
    · exact c
    · rw [Maps.sameKey_ne (kI_ne c)] at e2; cases e2
theorem intKeys_nodup {l : List Im} (h : Tidy (mapD l)) : (intKeys (mapD l)).Nodup := by
  obtain ⟨es, e, hk⟩ := mapD_es l
  obtain ⟨es', e', hp⟩ := h
  rw [e] at e' ⊢
  cases e'
  show (es.map fun p => Go.intOf p.1).Pairwise (· ≠ ·)
  refine List.pairwise_map.2 (hp.imp_of_mem fun {p q} hp' hq' hne e => ?_)
  obtain ⟨y, hy⟩ := hk p hp'
  obtain ⟨z, hz⟩ := hk q hq'
  rw [hy, hz] at e hne
  have : y = z := e
  exact hne (by rw [this])
/-- the keys in their order -/
theorem sorted_up {l : List Im} {ss : List Int} (ht : Tidy (mapD l)) (h : ss.Perm (intKeys (mapD l))) : (ss.mergeSort fun x y => decide (x ≤ y)).Pairwise (· < ·) ∧ ∀ b, b ∈ (ss.mergeSort fun x y => decide (x ≤ y)) ↔ b ∈ blks l := by
  have hp := List.mergeSort_perm ss fun x y => decide (x ≤ y)
  have hs : (ss.mergeSort fun x y => decide (x ≤ y)).Pairwise (fun x y => decide (x ≤ y) = true) := List.pairwise_mergeSort (fun a b c h1 h2 => by have := of_decide_eq_true h1; have := of_decide_eq_true h2; exact decide_eq_true (by omega)) (fun a b => by by_cases c : a ≤ b <;> simp <;> omega) ss
  have hn : (ss.mergeSort fun x y => decide (x ≤ y)).Nodup := (hp.trans h).nodup_iff.2 (intKeys_nodup ht)
  refine ⟨(hs.and hn).imp ?_, fun b => ?_⟩
  · rintro a b ⟨h1, h2⟩
    have := of_decide_eq_true h1; have : a ≠ b := h2; omega
  · rw [(hp.trans h).mem_iff, mapD_keys]
abbrev RV (v : Value) : Option (DataW Value × List MemPlace) := some (.held v, [])
theorem law3 : Keyed Tryd.prog 3 := int_keyed Tryd.underlying3
theorem zeroVal (w : World) : (zeroValue 30).run Tryd.prog w = .ok (.agg (U8 (zs 32)).toArray) w := zv 30 _ zeroV w
/-- what the map holds at a block -/
theorem look_at {w : World} {B n : Nat} {l : List Im} (h : w.ownsMap Tryd.prog 3 RV B n (mapD l)) {b : Int} (hb : b ∈ blks l) (hw : i64 b) : (Instr.lookup 82 (.map (some B)) (.int .i64 b) false).run Tryd.prog w = .ok (.agg (U8 (lastV l b)).toArray) w := by
  obtain ⟨v, ps, hrun, hv⟩ := h.lookup law3 Tryd.underlying82 (zeroVal w) (zd := .held (.agg (U8 (zs 32)).toArray)) (zp := []) rfl (keyOf_int_mk Tryd.underlying3 (WalkArith.wf_i64 (by unfold i64 at hw; omega)) : keyOf Tryd.prog 3 (.int .i64 b) = some (kI b))
  rw [mapD_at b _ l hb] at hv
  simp only [RV, Option.some.injEq, Prod.mk.injEq, DataW.held.injEq] at hv
  rw [hrun, hv.1]
end Go.Proofs.YtefnkjajjidfaaaDoor
