/-
  The library's maps.Keys, slices.Sorted, slices.Sort at this program: the shelf's contracts, in plain words. Layer 10, the functions: Newest: the map that it makes; the keys in their order. Layer 10, the functions: Newest. Layer 10: images compared; slices of two parts built.
-/
import Derived.Shelf.SlIterI.Nil
import Derived.Shelf.SortM.Plain
import Derived.Shelf.SortM.SortNone
import Derived.Ground.GgzProg
import Derived.Ground.SlgmProg
import Derived.Maps.Own
import Derived.Test.YtefnkjajjidfaaaDoorProg
import Derived.Test.YtefnkjajjidfaaaDoorEa
import Derived.Test.YtefnkjajjidfaaaDoorEd
import Derived.Maps.OwnSet
import Derived.Lib.SlKeysI
namespace Go.Proofs.YtefnkjajjidfaaaDoor
open Go.RowKit Go.Maps Go.Sort Go.Shelf

def keysA_ren : Go.Shelf.Ren := ⟨fun | 7 => 31 | 10 => 60 | n => n, fun | 23 => 82 | 26 => 3 | 3 => 30 | 28 => 86 | 0 => 0 | 27 => 85 | 33 => 95 | 4 => 4 | n => n, fun | n => n⟩
theorem keysA : Go.Proofs.SlLaysZI.n7 Tryd.prog keysA_ren := {
  mixed := by kernel_rfl
  f7 := ⟨Tryd.f31.name, by decide, Tryd.func31.trans (congrArg some (by kernel_rfl))⟩
  f10 := ⟨Tryd.f60.name, by decide, Tryd.func60.trans (congrArg some (by kernel_rfl))⟩
  t0 := Tryd.underlying0
  a0 := Tryd.isAgg0
  z0 := Tryd.sizeOf0
  v0 := Tryd.zeroValue0
  t4 := Tryd.underlying4
  a4 := Tryd.isAgg4
  z4 := Tryd.sizeOf4
  v4 := Tryd.zeroValue4
  t23 := Tryd.underlying82
  a23 := Tryd.isAgg82
  z23 := Tryd.sizeOf82
  v23 := Tryd.zeroValue82
  t26 := Tryd.underlying3
  a26 := Tryd.isAgg3
  z26 := Tryd.sizeOf3
  v26 := Tryd.zeroValue3
  t27 := Tryd.underlying85
  a27 := Tryd.isAgg85
  z27 := Tryd.sizeOf85
  v27 := Tryd.zeroValue85
  t28 := Tryd.underlying86
  a28 := Tryd.isAgg86
  z28 := Tryd.sizeOf86
  v28 := Tryd.zeroValue86
  t33 := Tryd.underlying95
  a33 := Tryd.isAgg95
  z33 := Tryd.sizeOf95
  v33 := Tryd.zeroValue95 }
def sortedA_ren : Go.Shelf.Ren := ⟨fun | 6 => 30 | 8 => 58 | 9 => 59 | 11 => 81 | 13 => 83 | 12 => 82 | 23 => 98 | 24 => 99 | 14 => 89 | 15 => 90 | 16 => 91 | 17 => 92 | 18 => 93 | 19 => 94 | 20 => 95 | 21 => 96 | 22 => 97 | 25 => 101 | 26 => 102 | 27 => 103 | 28 => 104 | 29 => 105 | 30 => 106 | 31 => 107 | n => n, fun | 26 => 3 | 28 => 86 | 24 => 83 | 0 => 0 | 3 => 3 | 37 => 157 | 48 => 44 | 50 => 25 | 4 => 4 | 40 => 166 | 39 => 165 | 45 => 170 | 5 => 5 | 9 => 9 | 51 => 175 | 55 => 178 | 57 => 180 | 58 => 181 | 33 => 95 | n => n, fun | n => n⟩
theorem sortedA : Go.Proofs.SlLaysZI.n6 Tryd.prog sortedA_ren := {
  mixed := by kernel_rfl
  f6 := ⟨Tryd.f30.name, by decide, Tryd.func30.trans (congrArg some (by kernel_rfl))⟩
  f8 := ⟨Tryd.f58.name, by decide, Tryd.func58.trans (congrArg some (by kernel_rfl))⟩
  f11 := ⟨Tryd.f81.name, by decide, Tryd.func81.trans (congrArg some (by kernel_rfl))⟩
  t0 := Tryd.underlying0
  a0 := Tryd.isAgg0
  z0 := Tryd.sizeOf0
  v0 := Tryd.zeroValue0
  t24 := Tryd.underlying83
  a24 := Tryd.isAgg83
  z24 := Tryd.sizeOf83
  v24 := Tryd.zeroValue83
  t26 := Tryd.underlying3
  a26 := Tryd.isAgg3
  z26 := Tryd.sizeOf3
  v26 := Tryd.zeroValue3
  t28 := Tryd.underlying86
  a28 := Tryd.isAgg86
  z28 := Tryd.sizeOf86
  v28 := Tryd.zeroValue86
  i26 := by kernel_rfl }
def sortA_ren : Go.Shelf.Ren := ⟨fun | 5 => 59 | 8 => 83 | 7 => 82 | 19 => 98 | 20 => 99 | 10 => 89 | 11 => 90 | 12 => 91 | 13 => 92 | 14 => 93 | 15 => 94 | 16 => 95 | 17 => 96 | 18 => 97 | 30 => 101 | 31 => 102 | 32 => 103 | 33 => 104 | 34 => 105 | 35 => 106 | 40 => 107 | n => n, fun | 23 => 83 | 25 => 3 | 3 => 3 | 32 => 157 | 22 => 83 | 0 => 0 | 44 => 44 | 46 => 25 | 4 => 4 | 36 => 166 | 35 => 165 | 41 => 170 | 5 => 5 | 9 => 9 | 53 => 175 | 57 => 178 | 63 => 180 | 64 => 181 | n => n, fun | n => n⟩
theorem sortA : Go.Proofs.SlLaysM.n5 Tryd.prog sortA_ren := {
  mixed := by kernel_rfl
  f5 := ⟨Tryd.f59.name, by decide, Tryd.func59.trans (congrArg some (by kernel_rfl))⟩
  f7 := ⟨Tryd.f82.name, by decide, Tryd.func82.trans (congrArg some (by kernel_rfl))⟩
  f8 := Tryd.func83.trans (congrArg some (by kernel_rfl))
  f10 := ⟨Tryd.f89.name, by decide, Tryd.func89.trans (congrArg some (by kernel_rfl))⟩
  f11 := ⟨Tryd.f90.name, by decide, Tryd.func90.trans (congrArg some (by kernel_rfl))⟩
  f12 := ⟨Tryd.f91.name, by decide, Tryd.func91.trans (congrArg some (by kernel_rfl))⟩
  f13 := ⟨Tryd.f92.name, by decide, Tryd.func92.trans (congrArg some (by kernel_rfl))⟩
  f14 := ⟨Tryd.f93.name, by decide, Tryd.func93.trans (congrArg some (by kernel_rfl))⟩
  f15 := ⟨Tryd.f94.name, by decide, Tryd.func94.trans (congrArg some (by kernel_rfl))⟩
  f16 := ⟨Tryd.f95.name, by decide, Tryd.func95.trans (congrArg some (by kernel_rfl))⟩
  f17 := ⟨Tryd.f96.name, by decide, Tryd.func96.trans (congrArg some (by kernel_rfl))⟩
  f18 := ⟨Tryd.f97.name, by decide, Tryd.func97.trans (congrArg some (by kernel_rfl))⟩
  f19 := Tryd.func98.trans (congrArg some (by kernel_rfl))
  f20 := Tryd.func99.trans (congrArg some (by kernel_rfl))
  f30 := ⟨Tryd.f101.name, by decide, Tryd.func101.trans (congrArg some (by kernel_rfl))⟩
  f31 := Tryd.func102.trans (congrArg some (by kernel_rfl))
  f32 := Tryd.func103.trans (congrArg some (by kernel_rfl))
  f33 := ⟨Tryd.f104.name, by decide, Tryd.func104.trans (congrArg some (by kernel_rfl))⟩
  f34 := ⟨Tryd.f105.name, by decide, Tryd.func105.trans (congrArg some (by kernel_rfl))⟩
  f35 := ⟨Tryd.f106.name, by decide, Tryd.func106.trans (congrArg some (by kernel_rfl))⟩
  f40 := ⟨Tryd.f107.name, by decide, Tryd.func107.trans (congrArg some (by kernel_rfl))⟩
  t0 := Tryd.underlying0
  a0 := Tryd.isAgg0
  z0 := Tryd.sizeOf0
  v0 := Tryd.zeroValue0
  t3 := Tryd.underlying3
  a3 := Tryd.isAgg3
  z3 := Tryd.sizeOf3
  v3 := Tryd.zeroValue3
  t4 := Tryd.underlying4
  a4 := Tryd.isAgg4
  z4 := Tryd.sizeOf4
  v4 := Tryd.zeroValue4
  t5 := Tryd.underlying5
  a5 := Tryd.isAgg5
  z5 := Tryd.sizeOf5
  v5 := Tryd.zeroValue5
  t9 := Tryd.underlying9
  a9 := Tryd.isAgg9
  z9 := Tryd.sizeOf9
  v9 := Tryd.zeroValue9
  t22 := Tryd.underlying83
  a22 := Tryd.isAgg83
  z22 := Tryd.sizeOf83
  v22 := Tryd.zeroValue83
  t23 := Tryd.underlying83
  a23 := Tryd.isAgg83
  z23 := Tryd.sizeOf83
  v23 := Tryd.zeroValue83
  t25 := Tryd.underlying3
  a25 := Tryd.isAgg3
  z25 := Tryd.sizeOf3
  v25 := Tryd.zeroValue3
  t32 := Tryd.underlying157
  a32 := Tryd.isAgg157
  z32 := Tryd.sizeOf157
  v32 := Tryd.zeroValue157
  t35 := Tryd.underlying165
  a35 := Tryd.isAgg165
  z35 := Tryd.sizeOf165
  v35 := Tryd.zeroValue165
  t36 := Tryd.underlying166
  a36 := Tryd.isAgg166
  z36 := Tryd.sizeOf166
  v36 := Tryd.zeroValue166
  t41 := Tryd.underlying170
  a41 := Tryd.isAgg170
  z41 := Tryd.sizeOf170
  v41 := Tryd.zeroValue170
  t44 := Tryd.underlying44
  a44 := Tryd.isAgg44
  z44 := Tryd.sizeOf44
  v44 := Tryd.zeroValue44
  t46 := Tryd.underlying25
  a46 := Tryd.isAgg25
  z46 := Tryd.sizeOf25
  v46 := Tryd.zeroValue25
  t53 := Tryd.underlying175
  a53 := Tryd.isAgg175
  z53 := Tryd.sizeOf175
  v53 := Tryd.zeroValue175
  t57 := Tryd.underlying178
  a57 := Tryd.isAgg178
  z57 := Tryd.sizeOf178
  v57 := Tryd.zeroValue178
  t63 := Tryd.underlying180
  a63 := Tryd.isAgg180
  z63 := Tryd.sizeOf180
  v63 := Tryd.zeroValue180
  t64 := Tryd.underlying181
  a64 := Tryd.isAgg181
  z64 := Tryd.sizeOf181
  v64 := Tryd.zeroValue181 }

theorem sortsA (m : Nat) : AnyZI.SortsIn Tryd.prog sortedA_ren Fence.wide m :=
  ⟨fun blk off cap ss W hH hblk hsz => callsIn_wide.2 (AnyM.slices_Sort_int sortA blk off cap ss W hH hblk hsz), fun p cap W => callsIn_wide.2 (AnyM.slices_Sort_int_none sortA p cap W)⟩
theorem keys_any (mb : Option Nat) (W : World) : Calls Tryd.prog 31 #[.map mb] W fun e w' => e = .returned (.func (.func 60) #[] #[.pointer (some ⟨W.heap.size, 0, none⟩)]) ∧ w' = W.alloc (.cells #[.map mb] 82) :=
  (callsIn_wide (n := 5)).1 (AnyZI.keys_in keysA Fence.wide 5 trivial rfl mb W)
theorem sorted_any {H : Type} (b nn : Nat) (D0 : DataW H) (R : Value → Option (DataW H × List MemPlace)) (w : World) (hown : w.ownsMap Tryd.prog 3 R b nn D0) (hmax : Maps.size D0 ≤ maxLen) (hbytes : Maps.size D0 * 8 ≤ 140737488355328) :
    Calls Tryd.prog 30 #[.func (.func 60) #[] #[.pointer (some ⟨w.heap.size, 0, none⟩)]] (w.alloc (.cells #[.map (some b)] 82)) fun e w' => ∃ (v : Value) (ss : List Int), e = .returned v ∧ ss.Perm (intKeys D0) ∧
      w'.ownsRow w.heap.size 3 1 v ss.length ((ss.mergeSort (fun x y => decide (x ≤ y))).map encZ) ∧ Below w.heap.size w w' := by
  have hbl := hown.lt
  have hseq : SeqGives Fence.wide 2 Tryd.prog 60 #[.pointer (some ⟨w.heap.size, 0, none⟩)] encZ (fun ss => ss.Perm (intKeys D0)) (Maps.size D0) (w.alloc (.cells #[.map (some b)] 82)) :=
    AnyZI.keys_gives (ρ := keysA_ren) { keysA with } Fence.wide _ trivial rfl (by omega) w.heap.size b nn D0 _ (by simp) (by simp) (by
      obtain ⟨es, clock, hb, Ft, hs, hD⟩ := hown
      exact ⟨es, clock, (Below.heap_alloc _ _ b hbl).trans hb, Ft, hs, hD⟩)
  have cS := AnyZI.sorted_in sortedA Fence.wide 5 trivial trivial trivial trivial rfl (by omega) (sortsA _) (enters_of Tryd.func59 (by kernel_rfl) rfl) 60 #[.pointer (some ⟨w.heap.size, 0, none⟩)] trivial (enters_of Tryd.func60 (by kernel_rfl) rfl) _ _ hmax hbytes _ hseq
  change CallsIn _ _ Tryd.prog 30 _ _ _ at cS
  refine (callsIn_wide (n := 5)).1 (cS.mono ?_)
  rintro e w' ⟨v, ss, rfl, hS, hrow, _, hb⟩
  exact ⟨v, ss, rfl, hS, ownsRow_base_a hrow (by simp), ((Below.refl _ w).alloc (Nat.le_refl _) _).trans (hb.mono (by simp))⟩
end Go.Proofs.YtefnkjajjidfaaaDoor
namespace Go.Proofs.YtefnkjajjidfaaaDoor
open Go.RowKit Go.Maps


section
variable {P : Program} {ops : Array Oper} {rest : List Oper} {o : Oper} {a : Act} {w w' : World} {Q : Exit → Act → World → Prop}
theorem wpList_slice_is (hgd : Region.wanted o (yielded ops a.tmps) = true) (ty : TypeId) {x : Operand} (ho : o.op = .buildSlice ty 1 #[(0, x)]) {u v : Value} (hx : a.eval x = u) (hrun : (Instr.buildSlice ty 1 #[(0, u)]).run P w = .ok v w') (h : wpList P ops Q rest (a.put o.dst v) w') : wpList P ops Q (o :: rest) a w :=
  wpList_val hgd (by
    have e : (#[(0, x)] : Array (Nat × Operand)).map (fun (i, y) => (i, a.eval y)) = #[(0, u)] := by simp [hx]
    unfold execOp; simp only [ho]; rw [e]; simp only [Sem.run_bind, hrun, Result.andThen_ok, Sem.run_pure]) h
theorem wpList_append_is (hgd : Region.wanted o (yielded ops a.tmps) = true) {s x : Operand} {t ty : TypeId} (ho : o.op = .call { callee := .builtin .append, args := #[s, x], argTypes := #[t, t] }) (hty : o.type = ty) {u1 u2 v : Value} (hs : a.eval s = u1) (hx : a.eval x = u2) (hrun : (Builtin.append_ #[t, t] ty #[u1, u2]).run P w = .ok v w') (h : wpList P ops Q rest (a.put o.dst v) w') : wpList P ops Q (o :: rest) a w :=
  wpList_val hgd (by subst hty; simp [execOp, ho, resolve, invoke, builtin, hs, hx, hrun, Result.andThen]) h
theorem wpList_lookup_is (hgd : Region.wanted o (yielded ops a.tmps) = true) (ty : TypeId) {m x : Operand} (ho : o.op = .lookup ty m x false) {u1 u2 v : Value} (hm : a.eval m = u1) (hx : a.eval x = u2) (hrun : (Instr.lookup ty u1 u2 false).run P w = .ok v w) (h : wpList P ops Q rest (a.put o.dst v) w) : wpList P ops Q (o :: rest) a w :=
  wpList_val hgd (by unfold execOp; simp only [ho, hm, hx, Sem.run_bind, hrun, Result.andThen_ok, Sem.run_pure]) h
end
/-- the map after images, one behind the other -/
abbrev kI (b : Int) : Lit := .int .i64 b
abbrev hV (v : List Int) : DataW Value := .held (.agg (U8 v).toArray)
def mapD (l : List Im) : DataW Value := l.foldl (fun D x => D.put (kI x.b) (hV x.v)) (.map [])
theorem mapD_snoc (l : List Im) (x : Im) : mapD (l ++ [x]) = (mapD l).put (kI x.b) (hV x.v) := by simp [mapD]
theorem snoc_ind {α : Type} {p : List α → Prop} (h0 : p []) (h1 : ∀ l x, p l → p (l ++ [x])) (l : List α) : p l := by
  have : ∀ m : List α, p m.reverse := fun m => by
    induction m with
    | nil => exact h0
    | cons x m ih => rw [List.reverse_cons]; exact h1 _ _ ih
  have e := this l.reverse
  rwa [List.reverse_reverse] at e
theorem mem_ins (x : Lit × DataW Value) (p : Lit × DataW Value) : ∀ l, p ∈ DataW.insert x l ↔ p = x ∨ p ∈ l
  | [] => by simp [DataW.insert]
  | y :: r => by
    unfold DataW.insert
    by_cases h : x.1.before y.1 = true
    · rw [if_pos h]; exact List.mem_cons
    · rw [if_neg h, List.mem_cons, mem_ins x p r, List.mem_cons]
      exact or_left_comm
theorem mapD_es (l : List Im) : ∃ es, mapD l = .map es ∧ ∀ p ∈ es, ∃ y, p.1 = kI y := by
  refine snoc_ind (p := fun l => ∃ es, mapD l = .map es ∧ ∀ p ∈ es, ∃ y, p.1 = kI y) ⟨[], rfl, fun p h => by cases h⟩ (fun l x h => ?_) l
  obtain ⟨es, e, hk⟩ := h
  refine ⟨_, by rw [mapD_snoc, e]; rfl, fun p hp => ?_⟩
  rcases (mem_ins _ _ _).1 hp with rfl | hp
  · exact ⟨x.b, rfl⟩
  · exact hk p (List.mem_filter.1 hp).1
theorem mapD_isMap (l : List Im) : IsMap (mapD l) := by obtain ⟨es, e, _⟩ := mapD_es l; exact ⟨es, e⟩
theorem kI_ne {a b : Int} (h : a ≠ b) : kI a ≠ kI b := fun e => h (by injection e)
theorem mapD_has (b : Int) : ∀ l, Maps.has (mapD l) (kI b) = decide (b ∈ blks l) := by
  refine snoc_ind (by simp [mapD, Maps.has]) fun l x ih => ?_
  rw [mapD_snoc]
  by_cases h : x.b = b
  · rw [← h, Maps.has_put_same (k := kI x.b) (mapD_isMap l) trivial]; simp
  · rw [Maps.has_put_other (kI_ne fun e => h e.symm), ih]
    simp only [blks, List.map_append, List.map_cons, List.map_nil, List.mem_append, List.mem_singleton]
    by_cases hb : b ∈ l.map (·.b)
    · simp [hb]
    · rw [decide_eq_false hb, decide_eq_false]; rintro (k | k)
      · exact hb k
      · exact h k.symm
theorem mapD_at (b : Int) (z : DataW Value) : ∀ l, b ∈ blks l → (mapD l).atKey (kI b) z = hV (lastV l b) := by
  refine snoc_ind (fun h => by cases h) fun l x ih hb => ?_
  rw [mapD_snoc, lastV_snoc]
  by_cases h : x.b = b
  · rw [if_pos h, ← h, Maps.atKey_put_same (k := kI x.b) (mapD_isMap l) trivial]
  · rw [if_neg h, Maps.atKey_put_other (kI_ne fun e => h e.symm)]
    refine ih ?_
    simp only [blks, List.map_append, List.map_cons, List.map_nil, List.mem_append, List.mem_singleton] at hb
    rcases hb with hb | hb
    · exact hb
    · exact absurd hb.symm h
theorem mapD_keys (l : List Im) (b : Int) : b ∈ intKeys (mapD l) ↔ b ∈ blks l := by
  have hh := mapD_has b l
  obtain ⟨es, e, hk⟩ := mapD_es l
  rw [e] at hh ⊢
  rw [Maps.has_eq] at hh
  constructor
  · intro hb
    obtain ⟨p, hp, e2⟩ := List.mem_map.1 (show b ∈ es.map fun p => Go.intOf p.1 from hb)
    obtain ⟨y, hy⟩ := hk p hp
    have : (es.any fun p => p.1.sameKey (kI b)) = true := List.any_eq_true.2 ⟨p, hp, by rw [hy] at e2 ⊢; have : y = b := e2; subst this; exact WideAt.sameKey_self (a := kI y) trivial⟩
    rw [this] at hh
    exact of_decide_eq_true hh.symm
  · intro hb
    rw [decide_eq_true hb] at hh
    obtain ⟨p, hp, e2⟩ := List.any_eq_true.1 hh
    obtain ⟨y, hy⟩ := hk p hp
    refine List.mem_map.2 ⟨p, hp, ?_⟩
    rw [hy] at e2 ⊢
    show y = b
    by_cases c : y = b
    · exact c
    · rw [Maps.sameKey_ne (kI_ne c)] at e2; cases e2
theorem intKeys_nodup {l : List Im} (h : Tidy (mapD l)) : (intKeys (mapD l)).Nodup := by
  obtain ⟨es, e, hk⟩ := mapD_es l
  obtain ⟨es', e', hp⟩ := h
  rw [e] at e' ⊢
  cases e'
  show (es.map fun p => Go.intOf p.1).Pairwise (· ≠ ·)
  refine List.pairwise_map.2 (hp.imp_of_mem fun {p q} hp' hq' hne e => ?_)
  obtain ⟨y, hy⟩ := hk p hp'
  obtain ⟨z, hz⟩ := hk q hq'
  rw [hy, hz] at e hne
  have : y = z := e
  exact hne (by rw [this])
theorem up_of : ∀ {xs : List Int}, xs.Pairwise (fun x y => decide (x ≤ y) = true) → xs.Nodup → xs.Pairwise (· < ·)
  | [], _, _ => List.Pairwise.nil
  | x :: xs, h, hn => List.pairwise_cons.2 ⟨fun y hy => by
      have h1 := of_decide_eq_true ((List.pairwise_cons.1 h).1 y hy)
      have h2 : x ≠ y := fun e => (List.nodup_cons.1 hn).1 (by rw [e]; exact hy)
      omega, up_of (List.pairwise_cons.1 h).2 (List.nodup_cons.1 hn).2⟩
/-- the keys in their order -/
theorem sorted_up {l : List Im} {ss : List Int} (ht : Tidy (mapD l)) (h : ss.Perm (intKeys (mapD l))) : (ss.mergeSort fun x y => decide (x ≤ y)).Pairwise (· < ·) ∧ ∀ b, b ∈ (ss.mergeSort fun x y => decide (x ≤ y)) ↔ b ∈ blks l := by
  have hp := List.mergeSort_perm ss fun x y => decide (x ≤ y)
  have hs : (ss.mergeSort fun x y => decide (x ≤ y)).Pairwise (fun x y => decide (x ≤ y) = true) := List.pairwise_mergeSort (fun a b c h1 h2 => by have := of_decide_eq_true h1; have := of_decide_eq_true h2; exact decide_eq_true (by omega)) (fun a b => by by_cases c : a ≤ b <;> simp <;> omega) ss
  have hn : (ss.mergeSort fun x y => decide (x ≤ y)).Nodup := (hp.trans h).nodup_iff.2 (intKeys_nodup ht)
  refine ⟨up_of hs hn, fun b => ?_⟩
  · rw [(hp.trans h).mem_iff, mapD_keys]
abbrev RV (v : Value) : Option (DataW Value × List MemPlace) := some (.held v, [])
theorem law3 : Keyed Tryd.prog 3 := int_keyed Tryd.underlying3
theorem zeroVal (w : World) : (zeroValue 30).run Tryd.prog w = .ok (.agg (U8 (zs 32)).toArray) w := zv 30 _ zeroV w
/-- what the map holds at a block -/
theorem look_at {w : World} {B n : Nat} {l : List Im} (h : w.ownsMap Tryd.prog 3 RV B n (mapD l)) {b : Int} (hb : b ∈ blks l) (hw : i64 b) : (Instr.lookup 82 (.map (some B)) (.int .i64 b) false).run Tryd.prog w = .ok (.agg (U8 (lastV l b)).toArray) w := by
  obtain ⟨v, ps, hrun, hv⟩ := h.lookup law3 Tryd.underlying82 (zeroVal w) (zd := .held (.agg (U8 (zs 32)).toArray)) (zp := []) rfl (keyOf_int_mk Tryd.underlying3 (WalkArith.wf_i64 (by unfold i64 at hw; omega)) : keyOf Tryd.prog 3 (.int .i64 b) = some (kI b))
  rw [mapD_at b _ l hb] at hv
  simp only [RV, Option.some.injEq, Prod.mk.injEq, DataW.held.injEq] at hv
  rw [hrun, hv.1]
end Go.Proofs.YtefnkjajjidfaaaDoor
namespace Go.Proofs.YtefnkjajjidfaaaDoor
open Go.RowKit Go.Maps


theorem lastV_wf {l : List Im} (h : ImsWf l) {b : Int} (hb : b ∈ blks l) : (lastV l b).length = 32 ∧ Bytes (lastV l b) ∧ i64 b := by
  induction l with
  | nil => cases hb
  | cons x xs ih =>
    by_cases c : b ∈ blks xs
    · rw [lastV_in c]; exact ih (fun y hy => h y (List.mem_cons.2 (.inr hy))) c
    · have e : b = x.b := (List.mem_cons.1 (show b ∈ x.b :: blks xs from hb)).resolve_right c
      rw [e] at c ⊢
      rw [lastV_new c]
      have := h x (List.mem_cons.2 (.inl rfl))
      exact ⟨this.len, this.byte, this.b⟩
theorem sizeT : (Tryd.prog.info? 33).map (·.size) = some 2 := by kernel_rfl
theorem allocT (w : World) : (Instr.alloc 33 true (.tuple #[])).run Tryd.prog w = .ok (.pointer (some ⟨w.heap.size, 0, none⟩)) (w.alloc (.cells ([.int .u64 0, .slice none 0 0] : List Value).toArray 33)) := by
  simp only [Instr.alloc, Sem.run_bind, zv 33 _ zeroT, Result.andThen_ok]
  simp [newVar, newRow, Value.cells]
theorem store_newT (w : World) (p : Int) (q : Option Addr) (n m : Nat) : (Instr.storeAt 33 (.pointer (some ⟨w.heap.size, 0, none⟩)) (.agg #[.int .u64 p, .slice q n m])).run Tryd.prog (w.alloc (.cells ([.int .u64 0, .slice none 0 0] : List Value).toArray 33)) = .ok () (w.alloc (.cells #[.int .u64 p, .slice q n m] 33)) := by
  have := (LAt.new 33 w [.int .u64 0, .slice none 0 0]).store (ds := [.int .u64 p, .slice q n m]) sizeT rfl (all_oneCell_toArray fun v hv => by
    simp only [List.mem_cons, List.not_mem_nil, or_false] at hv
    rcases hv with rfl | rfl <;> rfl)
  rw [setRow_alloc] at this
  exact this
/-- a transaction's two cells, read -/
theorem load_tx {w : World} {b o : Nat} {p : Int} {u : Value} (h0 : w.cell? ⟨b, o, none⟩ = some (.int .u64 p)) (h1 : w.cell? ⟨b, o + 1, none⟩ = some u) : (Instr.loadAt 33 (.pointer (some ⟨b, o, none⟩))).run Tryd.prog w = .ok (.agg #[.int .u64 p, u]) w := by
  refine run_loadAt_mid w b o 33 [.int .u64 p, u] _ (fun j v hv => ?_) Tryd.underlying33 rfl sizeT
  have hj : j < 2 := (List.getElem?_eq_some_iff.1 hv).1
  have : j = 0 ∨ j = 1 := by omega
  rcases this with rfl | rfl
  · exact h0.trans hv
  · exact h1.trans hv
theorem take_flat (l : List TX) {k : Nat} {t : TX} (h : l[k]? = some t) : flat (l.take (k + 1)) = flat (l.take k) ++ t.ims := by
  have hk := (List.getElem?_eq_some_iff.1 h).1
  have e : l.take (k + 1) = l.take k ++ [t] := by
    rw [List.take_add_one, h]; rfl
  rw [e, flat_snoc]
theorem flat_le (l : List TX) (k : Nat) : (flat (l.take k)).length ≤ (flat l).length := by
  have e : flat l = flat (l.take k) ++ flat (l.drop k) := by
    have := List.take_append_drop k l
    simp only [flat]
    rw [← List.flatMap_append, this]
  rw [e, List.length_append]; omega
theorem flat_bd {l : List TX} {k : Nat} {t : TX} (h : l[k]? = some t) (j : Nat) : (flat (l.take k)).length + (t.ims.take j).length ≤ (flat l).length := by
  have h1 := flat_le l (k + 1)
  rw [take_flat l h, List.length_append] at h1
  have h2 : (t.ims.take j).length ≤ t.ims.length := by rw [List.length_take]; omega
  omega
theorem flat_take_wf {l : List TX} (h : TxsWf l) (k : Nat) : ImsWf (flat (l.take k)) := flat_wf fun t ht => h t (List.mem_of_mem_take ht)

set_option maxHeartbeats 4000000 in
set_option maxRecDepth 100000 in
theorem newest_any (q : Option Addr) (n c : Nat) (txs : List TX) (w : World) (h : XIn w q n txs) (hwf : TxsWf txs) (hn : n ≤ 2000000) (hf : (flat txs).length ≤ 2000000) :
    Calls Tryd.prog 9 #[.slice q n c] w fun e w' => ∃ v, e = .returned v ∧ IOwn w' w.heap.size v (nwS (flat txs)) ∧ Below w.heap.size w w' := by
  have hmm := @run_makeMap Tryd.prog
  have HX : Hid (XIn w q n txs) := h
  have HW : Hid (TxsWf txs) := hwf
  have HF : Hid ((flat txs).length ≤ 2000000) := hf
  have hlen : txs.length = n := h.len
  clear h hwf hf
  go_enter Tryd.func9, Tryd.ntmps9
  go_wp2
  go_loopw [14] (fun i wr => ∃ k : Nat, k ≤ n ∧ i = .int .i64 k ∧ Hid (wr.ownsMap Tryd.prog 3 RV w.heap.size (flat (txs.take k)).length (mapD (flat (txs.take k))) ∧ Below w.heap.size w wr)) (fun i _ => n - (intOf i).toNat)
  case atStart => exact ⟨0, Nat.zero_le _, rfl, World.ownsMap_made _ _ _ _, (Below.refl _ _).alloc (Nat.le_refl _) _⟩
  case round =>
    obtain ⟨k, hk, rfl, HI⟩ := hrel
    by_cases hlt : k < n
    · obtain ⟨t, htk⟩ : ∃ t, txs[k]? = some t := ⟨_, List.getElem?_eq_getElem (by omega)⟩
      have HXr : XIn wr q n txs := HX.out.later HI.out.2
      obtain ⟨g, o, rfl, hcell⟩ := HXr.cells (by omega)
      obtain ⟨q2, c2, e0, e1, mi, m1, m2⟩ := hcell k t htk
      have hm : t.ims.length ≤ 2000000 := by have := flat_bd htk t.ims.length; rw [List.take_length] at this; have := HF.out; omega
      have L17 : Hid (_) := load_tx e0 e1
      have A5 : Hid (_) := allocT wr
      have T5 : Hid (_) := store_newT wr t.p q2 t.ims.length c2
      obtain ⟨w5, hw5⟩ : ∃ y, y = wr.alloc (.cells #[.int .u64 t.p, .slice q2 t.ims.length c2] 33) := ⟨_, rfl⟩
      have l5 : LAt 33 w5 wr.heap.size [.int .u64 t.p, .slice q2 t.ims.length c2] := by rw [hw5]; exact LAt.new 33 wr _
      have c51 : w5.cell? ⟨wr.heap.size, 1, none⟩ = some (.slice q2 t.ims.length c2) := LAt.cell l5 1
      rw [← hw5] at T5
      have HM : Hid (∀ W, Below w.heap.size w W → MIn W q2 t.ims.length t.ims) := by
        intro W hW
        obtain ⟨g', o', e', hcell'⟩ := (HX.out.later hW).cells (by omega)
        obtain ⟨q3, c3, f0, f1, mi3, -, -⟩ := hcell' k t htk
        cases e'
        have f2 := (HX.out.cells (by omega))
        obtain ⟨g4, o4, e4, hc4⟩ := f2
        cases e4
        obtain ⟨q5, c5, k0, k1, -, -, -⟩ := hc4 k t htk
        have a1 : wr.cell? ⟨g, o + k * 2 + 1, none⟩ = some (.slice q5 t.ims.length c5) := (HI.out.2.cell (p := ⟨g, o + k * 2 + 1, none⟩) (World.block_lt_of_cell? w _ k1)).trans k1
        have a2 : W.cell? ⟨g, o + k * 2 + 1, none⟩ = some (.slice q5 t.ims.length c5) := (hW.cell (p := ⟨g, o + k * 2 + 1, none⟩) (World.block_lt_of_cell? w _ k1)).trans k1
        rw [e1] at a1
        rw [f1] at a2
        cases a1; cases a2
        exact mi3
      have I5 : Hid (w5.ownsMap Tryd.prog 3 RV w.heap.size (flat (txs.take k)).length (mapD (flat (txs.take k))) ∧ Below w.heap.size w w5) := by
        rw [hw5]; exact ⟨HI.out.1.alloc _, HI.out.2.alloc HI.out.2.size _⟩
      clear HXr hcell e0 e1 mi hw5 l5 HI
      go_wp2_with ((with_reducible refine at_ops ?_); (first | (refine wpList_load_is (by rfl) 33 rfl rfl L17.out ?_) | (refine wpList_alloc_is (by rfl) 33 rfl A5.out ?_) | (refine wpList_store_is (by rfl) 33 rfl rfl rfl T5.out ?_)); simp only [Act.put, List.setIfInBounds_toArray, List.set_cons_zero, List.set_cons_succ])
      clear L17 A5 T5 c51
      go_loopw [21] (fun i wr => ∃ j : Nat, j ≤ t.ims.length ∧ i = .int .i64 j ∧ Hid (wr.ownsMap Tryd.prog 3 RV w.heap.size ((flat (txs.take k)).length + j) (mapD (flat (txs.take k) ++ t.ims.take j)) ∧ Below w.heap.size w wr)) (fun i _ => t.ims.length - (intOf i).toNat)
      case atStart => exact ⟨0, Nat.zero_le _, rfl, by simpa using I5.out.1, I5.out.2⟩
      case round =>
        obtain ⟨j, hj, rfl, HJ⟩ := hrel
        clear I5
        by_cases hjl : j < t.ims.length
        · obtain ⟨x, hx⟩ : ∃ x, t.ims[j]? = some x := ⟨_, List.getElem?_eq_getElem hjl⟩
          have mi := HM.out _ HJ.out.2
          have hxw := mi.wf x (List.mem_of_getElem? hx)
          obtain ⟨g2, o2, rfl, -⟩ := mi.cells (by omega)
          have L24 : Hid (_) := mi.load hx
          have A7 : Hid (_) := allocI wr
          have T7 : Hid (_) := store_newI wr x hxw.len
          obtain ⟨w7, hw7⟩ : ∃ y, y = wr.alloc (.cells (icells x).toArray 32) := ⟨_, rfl⟩
          have l7 : LAt 32 w7 wr.heap.size (icells x) := by rw [hw7]; exact LAt.new 32 wr _
          have c70 : w7.cell? ⟨wr.heap.size, 0, none⟩ = some (.int .i64 x.b) := LAt.cell l7 0
          have LV : Hid (_) := LAt.loadIv l7 hxw.len
          rw [← hw7] at T7
          have O7 : Hid (w7.ownsMap Tryd.prog 3 RV w.heap.size ((flat (txs.take k)).length + j) (mapD (flat (txs.take k) ++ t.ims.take j)) ∧ Below w.heap.size w w7) := by
            rw [hw7]; exact ⟨HJ.out.1.alloc _, HJ.out.2.alloc HJ.out.2.size _⟩
          have hkey : keyOf Tryd.prog 3 (.int .i64 x.b) = some (kI x.b) := keyOf_int_mk Tryd.underlying3 (WalkArith.wf_i64 (by have := hxw.b; unfold i64 at this; omega))
          have hroom : (flat (txs.take k)).length + j < maxLen := by
            have h1 := flat_bd htk j; rw [List.length_take] at h1; have := HF.out
            have h65 : (3000000 : Nat) ≤ maxLen := by decide
            omega
          have HD : Hid (mapD (flat (txs.take k) ++ t.ims.take (j + 1)) = (mapD (flat (txs.take k) ++ t.ims.take j)).put (kI x.b) (hV x.v)) := by
            show _ = _
            rw [List.take_add_one, hx, ← List.append_assoc]; exact mapD_snoc _ x
          clear mi hw7 l7 HJ
          go_wp2_with ((with_reducible refine at_ops ?_); (first | (refine wpList_load_is (by rfl) 32 rfl rfl L24.out ?_; simp only [Act.put, List.setIfInBounds_toArray, List.set_cons_zero, List.set_cons_succ]) | (refine wpList_load_is (by rfl) 30 rfl rfl LV.out ?_; simp only [Act.put, List.setIfInBounds_toArray, List.set_cons_zero, List.set_cons_succ]) | (refine wpList_alloc_is (by rfl) 32 rfl A7.out ?_; simp only [Act.put, List.setIfInBounds_toArray, List.set_cons_zero, List.set_cons_succ]) | (refine wpList_store_is (by rfl) 32 rfl rfl rfl T7.out ?_; simp only [Act.put]) | (refine wpList_mapUpdate_own _ rfl _ _ _ 82 rfl 3 30 law3 Tryd.underlying82 RV w.heap.size ((flat (txs.take k)).length + j) _ rfl O7.out.1 hroom (.int .i64 x.b) (.agg (U8 x.v).toArray) (kI x.b) rfl rfl hkey (hV x.v) [] rfl ?_; intro w8 hown8 hgrow8; simp only [Act.put])))
          have F8 : Hid (w8.ownsMap Tryd.prog 3 RV w.heap.size ((flat (txs.take k)).length + (j + 1)) (mapD (flat (txs.take k) ++ t.ims.take (j + 1))) ∧ Below w.heap.size w w8) := by
            rw [HD.out]; exact ⟨hown8, O7.out.2.grown hgrow8 O7.out.2.size fun r hr => by cases hr; exact Nat.le_refl _⟩
          clear hown8 hgrow8
          go_wp2_with fail
          go_roundw
          case rel => exact ⟨j + 1, by omega, by go_num, F8.out⟩
          case measure => simp [intOf]; omega
        · obtain rfl : j = t.ims.length := by omega
          have F8 : Hid (wr.ownsMap Tryd.prog 3 RV w.heap.size (flat (txs.take (k + 1))).length (mapD (flat (txs.take (k + 1)))) ∧ Below w.heap.size w wr) := by
            show _ ∧ _
            rw [take_flat txs htk, List.length_append]
            have := HJ.out
            rw [List.take_length] at this
            exact this
          clear HJ
          go_wp2_with fail
          go_roundw
          case rel => exact ⟨k + 1, by omega, by go_num, F8.out⟩
          case measure => simp [intOf]; omega
    · obtain rfl : n = k := by omega
      have HO : Hid (wr.ownsMap Tryd.prog 3 RV w.heap.size (flat txs).length (mapD (flat txs)) ∧ Below w.heap.size w wr) := by
        show _ ∧ _
        have := HI.out
        rw [← hlen, List.take_length] at this
        exact this
      clear HI
      go_wp2_with fail
      refine (keys_any (some w.heap.size) wr).mono ?_
      rintro e w1 ⟨rfl, rfl⟩
      go_wp2_with fail
      have hsz := HO.out.1.size_le
      refine (sorted_any w.heap.size _ (mapD (flat txs)) RV wr HO.out.1 (by have := HF.out; have h65 : (3000000 : Nat) ≤ maxLen := (by decide); omega) (by have := HF.out; omega)).mono ?_
      rintro e w2 ⟨v2, ss, rfl, hS, hrow, hb2⟩
      obtain ⟨up, mem⟩ := sorted_up (HO.out.1.tidy law3) hS
      obtain ⟨Ks, hKs⟩ : ∃ Ks, (ss.mergeSort fun x y => decide (x ≤ y)) = Ks := ⟨_, rfl⟩
      have hl2 : Ks.length = ss.length := by rw [← hKs]; exact List.length_mergeSort ss
      have hle : ss.length ≤ 2000000 := by
        have h1 := hS.length_eq
        have h2 : (intKeys (mapD (flat txs))).length = Maps.size (mapD (flat txs)) := by
          obtain ⟨es, e', -⟩ := mapD_es (flat txs)
          rw [e']; simp [intKeys, Maps.size]
        have := HF.out; omega
      rw [hKs] at up mem hrow
      have HUp : Hid (Ks.Pairwise (· < ·) ∧ ∀ b, b ∈ Ks ↔ b ∈ blks (flat txs)) := ⟨up, mem⟩
      rw [← hl2] at hrow hle
      have HO2 : Hid (w2.ownsMap Tryd.prog 3 RV w.heap.size (flat txs).length (mapD (flat txs)) ∧ Below w.heap.size w w2) := by
        refine ⟨HO.out.1.kept (row := none) ⟨hb2.os, hb2.tape, hb2.output, hb2.size, fun k hk _ => hb2.block k hk⟩ (by simp), HO.out.2.trans (hb2.mono HO.out.2.size)⟩
      have HR2 : Hid (w2.ownsRow wr.heap.size 3 1 v2 Ks.length (Ks.map encZ)) := hrow
      obtain ⟨q2, c2, rfl, hcell2⟩ : ∃ q2 c2, v2 = .slice q2 Ks.length c2 ∧ (0 < Ks.length → ∃ g, q2 = some ⟨g, 0, none⟩) := by
        rcases hrow.2 with ⟨e, e2⟩ | ⟨g, cap, cur, e, -⟩
        · exact ⟨none, 0, by rw [e, e2], fun h => by omega⟩
        · exact ⟨_, cap, e, fun _ => ⟨g, rfl⟩⟩
      obtain ⟨B2, hB2⟩ : ∃ B2, B2 = wr.heap.size := ⟨_, rfl⟩
      rw [← hB2] at HR2
      clear hB2
      clear HO hsz up mem hS hrow hb2 hKs hl2
      obtain ⟨B3, hB3⟩ : ∃ B3, B3 = w2.heap.size := ⟨_, rfl⟩
      have hB30 : w.heap.size ≤ B3 := by rw [hB3]; exact HO2.out.2.size
      go_wp2_with fail
      go_loopw [8, 36] (fun out i wr' => ∃ j : Nat, j ≤ Ks.length ∧ i = .int .i64 j ∧ Hid (IOwn wr' B3 out ((Ks.take j).map fun b => (⟨b, lastV (flat txs) b⟩ : Im)) ∧ wr'.ownsMap Tryd.prog 3 RV w.heap.size (flat txs).length (mapD (flat txs)) ∧ wr'.ownsRow B2 3 1 (.slice q2 Ks.length c2) Ks.length (Ks.map encZ) ∧ Below w.heap.size w wr' ∧ B3 ≤ wr'.heap.size)) (fun _ i _ => Ks.length - (intOf i).toNat)
      case atStart => exact ⟨0, Nat.zero_le _, rfl, World.ownsRow_nil _ _ _ _, HO2.out.1, HR2.out, HO2.out.2, by omega⟩
      case round =>
        obtain ⟨j, hj, rfl, HJ⟩ := hrel
        clear HO2 HR2
        by_cases hjl : j < Ks.length
        · obtain ⟨g2, rfl⟩ := hcell2 (by omega)
          obtain ⟨b, hb⟩ : ∃ b, Ks[j]? = some b := ⟨_, List.getElem?_eq_getElem hjl⟩
          have hbm : b ∈ blks (flat txs) := (HUp.out.2 b).1 (List.mem_of_getElem? hb)
          obtain ⟨lw1, lw2, lw3⟩ := lastV_wf (flat_wf HW.out) hbm
          have ck : wr.cell? ⟨g2, j, none⟩ = some (.int .i64 b) := by
            have := HJ.out.2.2.1.cells (g := g2) rfl j (.int .i64 b) (by rw [List.getElem?_map, hb]; rfl)
            rw [Addr.add_mid, Nat.zero_add] at this; exact this
          have LK : Hid (_) := look_at HJ.out.2.1 hbm lw3
          have UI : Hid (_) := buildI wr b (lastV (flat txs) b) lw1
          have SI : Hid (_) := build_im wr ⟨b, lastV (flat txs) b⟩ lw1
          have hlj : ((Ks.take j).map fun b => (⟨b, lastV (flat txs) b⟩ : Im)).length = j := by rw [List.length_map, List.length_take]; omega
          obtain ⟨i0, hi0, hz0, hz1, hz2⟩ := info_parts infoI
          have h65 : (3000000 : Nat) ≤ maxLen := by decide
          obtain ⟨v', w4, hrun, hown', hgrow, -⟩ := run_append_own (P := Tryd.prog) (wr.alloc (.cells (icells ⟨b, lastV (flat txs) b⟩).toArray 32)) B3 26 26 32 i0 _ 33 40 Tryd.underlying26 hi0 hz0 hz1 hz2 rfl (by decide) u8 _ _ (HJ.out.1.alloc _) ⟨wr.heap.size, 0, none⟩ 1 1 (icells ⟨b, lastV (flat txs) b⟩) (by rw [icells_len lw1]) (fun j u hu => by
            rw [Addr.add_mid, Nat.zero_add, LAt.cell (LAt.new 32 wr (icells ⟨b, lastV (flat txs) b⟩)) j]; exact hu) (icells_ones _) (by omega) (by omega) (by have := HJ.out.2.2.2.2; simp; omega)
          have AP : Hid (_) := hrun
          have F4 : Hid (IOwn w4 B3 v' ((Ks.take (j + 1)).map fun b => (⟨b, lastV (flat txs) b⟩ : Im)) ∧ w4.ownsMap Tryd.prog 3 RV w.heap.size (flat txs).length (mapD (flat txs)) ∧ w4.ownsRow B2 3 1 (.slice (some ⟨g2, 0, none⟩) Ks.length c2) Ks.length (Ks.map encZ) ∧ Below w.heap.size w w4 ∧ B3 ≤ w4.heap.size) := by
            have hr := HJ.out.1
            refine ⟨?_, ?_, ?_, ?_, ?_⟩
            · rw [List.take_add_one, hb]
              show IOwn w4 B3 v' (((Ks.take j) ++ [b]).map _)
              rw [List.map_append, List.map_cons, List.map_nil, IOwn, IC_snoc, List.length_append, List.length_singleton]
              exact hown'
            · refine (HJ.out.2.1.alloc _).kept hgrow fun e => ?_
              have := (hr.lt _ e.symm).1
              rcases hr.2 with ⟨e1, _⟩ | ⟨g5, cap5, cur5, e1, e2, e3, _⟩
              · rw [e1] at e; cases e
              · rw [e1] at e
                simp only [Value.ownBlock, Option.some.injEq] at e
                obtain ⟨es, clk, hm, -⟩ := HJ.out.2.1
                rw [e, e3] at hm; cases hm
            · exact (HJ.out.2.2.1.alloc _).kept hgrow (own_ne HJ.out.2.2.1 hr (by decide))
            · exact (HJ.out.2.2.2.1.alloc HJ.out.2.2.2.1.size _).grown hgrow (by have := HJ.out.2.2.2.1.size; simp; omega) fun r er => Nat.le_trans hB30 (hr.lt r er).1
            · have := hgrow.size; have := HJ.out.2.2.2.2; simp at *; omega
          clear hrun hown' hgrow HJ hlj
          go_wp2_with ((with_reducible refine at_ops ?_); (first | (refine wpList_lookup_is (u1 := .map (some w.heap.size)) (u2 := .int .i64 b) (by rfl) 82 rfl rfl rfl LK.out ?_) | (refine wpList_build_is (vs := [(0, .int .i64 b), (1, .agg (U8 (lastV (flat txs) b)).toArray)]) (by rfl) 32 rfl (by rfl) UI.out ?_) | (refine wpList_slice_is (u := .agg (icells ⟨b, lastV (flat txs) b⟩).toArray) (by rfl) 26 rfl rfl SI.out ?_) | (refine wpList_append_is (u1 := u8) (u2 := .slice (some ⟨wr.heap.size, 0, none⟩) 1 1) (by rfl) rfl rfl rfl rfl AP.out ?_)); simp only [Act.put, List.setIfInBounds_toArray, List.set_cons_zero, List.set_cons_succ])
          go_roundw
          case rel => exact ⟨j + 1, by omega, by go_num, F4.out⟩
          case measure => simp [intOf]; omega
        · obtain rfl : j = Ks.length := by omega
          go_wp2_with fail
          go_ret
          have := HJ.out.1
          rw [List.take_length, nw_eq (flat txs) Ks HUp.out.1 HUp.out.2] at this
          exact ⟨_, rfl, own_at this (fun g hg => Nat.le_trans hB30 (this.lt g hg).1) rfl, HJ.out.2.2.2.1⟩
end Go.Proofs.YtefnkjajjidfaaaDoor
namespace Go.Proofs.YtefnkjajjidfaaaDoor
open Go.RowKit


theorem fldsI : Tryd.prog.underlying 32 = some (.struct (Tryd.prog.fieldsOf 32)) := by kernel_rfl
theorem heldI : Tryd.prog.stoodInHeld 32 = false := by kernel_rfl
theorem eqgI : Tryd.prog.eqGuardType Tryd.prog.depth 32 = false := by kernel_rfl
def flI : List (Bool × TypeId × Nat) := [(true, 3, 0), (true, 30, 1)]
theorem flI_is : fl Tryd.prog 32 = flI := by kernel_rfl
theorem sizeOfV (w : World) : (sizeOf 30).run Tryd.prog w = .ok 32 w := by
  cases hi : Tryd.prog.info? 30 with
  | none => have := sizeV; simp [hi] at this
  | some i =>
    have h := sizeV
    simp only [hi, Option.map_some, Option.some.injEq] at h
    simp [sizeOf, typeInfo, hi, h]
set_option maxRecDepth 100000 in
theorem partV (w : World) (i : Im) (h : i.v.length = 32) : (part 30 (icells i).toArray 1).run Tryd.prog w = .ok (.agg (U8 i.v).toArray) w := by
  have hagg : (isAgg 30).run Tryd.prog w = .ok true w := by
    unfold isAgg
    rw [Sem.run_bind, run_underlying Tryd.underlying30 w]
    rfl
  have hx : (icells i).toArray.extract 1 (1 + 32) = (U8 i.v).toArray := by
    rw [List.extract_toArray]
    congr 1
    show ((icells i).drop 1).take (1 + 32 - 1) = _
    rw [show (icells i).drop 1 = U8 i.v from rfl, List.take_of_length_le (by rw [U8_length, h]; omega)]
  simp only [part, Sem.run_bind, hagg, Result.andThen_ok, if_true, sizeOfV, Sem.run_pure, hx]
def imB (i j : Im) : Bool := i.b == j.b && decide (i.v = j.v)
theorem imB_iff (i j : Im) : imB i j = true ↔ i = j := by
  obtain ⟨a, b⟩ := i; obtain ⟨c, d⟩ := j
  simp [imB]
theorem equalI (w : World) (d : Nat) (i j : Im) (hi : i.v.length = 32) (hj : j.v.length = 32) : (Op.equalIn (d + 3) 32 (.agg (icells i).toArray) (.agg (icells j).toArray)).run Tryd.prog w = .ok (imB i j) w := by
  rw [run_equalIn_struct w (d + 2) 32 _ _ fldsI heldI, eqParts_of, show (Tryd.prog.fieldsOf 32).toList.map (fun f => (decide (f.name ≠ "_"), f.type, f.offset)) = flI from flI_is]
  unfold flI imB
  rw [eqParts_cons w _ _ _ 3 0 _ (part3 w (icells i) 0 i.b rfl) (part3 w (icells j) 0 j.b rfl) (run_equalIn_int w (d + 1) 3 .i64 .i64 _ _ Tryd.underlying3),
    eqParts_cons w _ _ _ 30 1 _ (partV w i hi) (partV w j hj) (equalV w d i.v j.v hi hj)]
  have e0 : (eqParts (d + 2) (icells i).toArray (icells j).toArray []).run Tryd.prog w = .ok true w := by rw [eqParts]; exact Sem.run_pure ..
  rw [e0]
  cases (i.b == j.b) <;> cases decide (i.v = j.v) <;> simp
theorem eqlI (w : World) (i j : Im) (hi : i.v.length = 32) (hj : j.v.length = 32) : (binOp .eql 32 (.agg (icells i).toArray) (.agg (icells j).toArray)).run Tryd.prog w = .ok (.bool (imB i j)) w := by
  rw [run_eql_struct, equalI w 9997 i j hi hj]; rfl
theorem neqI (w : World) (i j : Im) (hi : i.v.length = 32) (hj : j.v.length = 32) : (binOp .neq 32 (.agg (icells i).toArray) (.agg (icells j).toArray)).run Tryd.prog w = .ok (.bool (!imB i j)) w := by
  rw [run_neq_struct, equalI w 9997 i j hi hj]; rfl
theorem fill_at {f : Nat → Option (Nat × Nat)} {i off : Nat} {cs : List Value} (hf : f i = some (off, cs.length)) {L : List Value} (hl : off + cs.length ≤ L.length) (rest : List (Nat × Value)) :
    Instr.fill f L.toArray ((i, .agg cs.toArray) :: rest) = Instr.fill f (L.take off ++ cs ++ L.drop (off + cs.length)).toArray rest := by
  have a0 := part_fill off cs L hl
  have a1 : cs.toArray.zipIdx.foldl (fun cs x => match x with | (c, j) => cs.setIfInBounds (off + j) c) L.toArray = (L.take off ++ cs ++ L.drop (off + cs.length)).toArray := a0
  simp only [Instr.fill, hf, Value.cells, List.size_toArray]
  rw [if_neg (by simp; omega), a1]
theorem fill_two' {sz : Nat} {cs ds : List Value} (hc : cs.length = sz) (hd : ds.length = sz) (B : Array Value) (hB : B.size = 2 * sz) : Instr.fill (fun i => some (i * sz, sz)) B [(0, .agg cs.toArray), (1, .agg ds.toArray)] = some (cs ++ ds).toArray := by
  obtain ⟨L⟩ := B
  have hL : L.length = 2 * sz := hB
  rw [fill_at (off := 0) (cs := cs) (by simp [hc]) (by omega), fill_at (off := sz) (cs := ds) (by simp [hd]) (by simp; omega)]
  show some _ = some _
  congr 2
  rw [List.take_zero, List.nil_append, Nat.zero_add, hc, hd]
  rw [List.take_append_of_le_length (by omega), List.take_of_length_le (by omega), List.drop_of_length_le (by simp; omega), List.append_nil]
theorem build_im2 (w : World) (i j : Im) (hi' : i.v.length = 32) (hj' : j.v.length = 32) : (Instr.buildSlice 26 2 #[(0, .agg (icells i).toArray), (1, .agg (icells j).toArray)]).run Tryd.prog w = .ok (.slice (some ⟨w.heap.size, 0, none⟩) 2 2) (w.alloc (.cells (IC [i, j]).toArray 32)) := by
  obtain ⟨i0, hi, hz0, hz1, hz2⟩ := info_parts infoI
  refine run_buildSlice w 26 32 2 _ _ i0 _ Tryd.underlying26 hi hz0 (by rw [hz1]; decide) (by rw [hz1]; decide) ?_
  rw [hz1]
  have e : IC [i, j] = icells i ++ icells j := by simp [IC]
  rw [e]
  exact fill_two' (icells_len hi') (icells_len hj') _ (by simp)
theorem buildT1 (w : World) (q : Option Addr) (n m : Nat) : (Instr.build 33 #[(1, .slice q n m)]).run Tryd.prog w = .ok (.agg #[.int .u64 0, .slice q n m]) w :=
  run_build w 33 _ _ ((built_of 33 _ _ _ placesT zeroT).trans rfl)
theorem build_tx2 (w : World) (p q : Option Addr) (a b c d : Nat) : (Instr.buildSlice 24 2 #[(0, .agg #[.int .u64 0, .slice p a b]), (1, .agg #[.int .u64 0, .slice q c d])]).run Tryd.prog w = .ok (.slice (some ⟨w.heap.size, 0, none⟩) 2 2) (w.alloc (.cells #[.int .u64 0, .slice p a b, .int .u64 0, .slice q c d] 33)) := by
  obtain ⟨i0, hi, hz0, hz1, hz2⟩ := info_parts infoT
  refine run_buildSlice w 24 33 2 _ _ i0 _ Tryd.underlying24 hi hz0 (by rw [hz1]; decide) (by rw [hz1]; decide) ?_
  rw [hz1]
  exact fill_two' (cs := [.int .u64 0, .slice p a b]) (ds := [.int .u64 0, .slice q c d]) rfl rfl _ (by simp)
set_option maxRecDepth 100000 in
theorem buildV1 (w : World) (x : Int) : (Instr.build 30 #[(0, .int .u8 x)]).run Tryd.prog w = .ok (.agg (U8 (x :: zs 31)).toArray) w := run_build w 30 _ _ (by rfl)
set_option maxRecDepth 100000 in
theorem buildV3 (w : World) (x y z : Int) : (Instr.build 30 #[(0, .int .u8 x), (1, .int .u8 y), (2, .int .u8 z)]).run Tryd.prog w = .ok (.agg (U8 (x :: y :: z :: zs 29)).toArray) w := run_build w 30 _ _ (by rfl)
end Go.Proofs.YtefnkjajjidfaaaDoor
