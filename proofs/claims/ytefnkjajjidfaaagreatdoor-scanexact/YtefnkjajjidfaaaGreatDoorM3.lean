/-
  The library's maps.Keys, slices.Sorted, slices.Sort at this program: the shelf's contracts, in plain words. Layer 10, the functions: Newest: the map that it makes; the keys in their order. Layer 10, the functions: Newest. Layer 10: images compared; slices of two parts built. The document's SameImages, Same: where they are the same. Layer 10, the laws' own: small, num, awake. The laws' own: plain. The laws' own: plain, walked.
-/
import Derived.Shelf.SlIterI.Nil
import Derived.Shelf.SortM.Plain
import Derived.Shelf.SortM.SortNone
import Derived.Ground.GgzProg
import Derived.Ground.SlgmProg
import Derived.Maps.Own
import Derived.Test.YtefnkjajjidfaaaGreatDoorProg
import Derived.Test.YtefnkjajjidfaaaGreatDoorEa
import Derived.Test.YtefnkjajjidfaaaGreatDoorEd
import Derived.Maps.OwnSet
import Derived.Lib.SlKeysI
import Derived.Test.YtefnkjajjidfaaaGreatDoorM1
import Derived.BigQuiet
import Derived.Deep.RegionHeld3
import Derived.Test.YtefnkjajjidfaaaGreatDoorEf
import Derived.Test.YtefnkjajjidfaaaGreatDoorSy
import Derived.Laws.OwnMore
namespace Go.Proofs.YtefnkjajjidfaaaGreatDoor
open Go.RowKit Go.Maps Go.Sort Go.Shelf

def keysA_ren : Go.Shelf.Ren := ⟨fun | 7 => 36 | 10 => 60 | n => n, fun | 23 => 104 | 26 => 3 | 3 => 55 | 28 => 108 | 0 => 0 | 27 => 107 | 33 => 147 | 4 => 4 | n => n, fun | n => n⟩
theorem keysA : Go.Proofs.SlLaysZI.n7 Tryz.prog keysA_ren := {
  mixed := by kernel_rfl
  f7 := ⟨Tryz.f36.name, by decide, Tryz.func36.trans (congrArg some (by kernel_rfl))⟩
  f10 := ⟨Tryz.f60.name, by decide, Tryz.func60.trans (congrArg some (by kernel_rfl))⟩
  t0 := Tryz.underlying0
  a0 := Tryz.isAgg0
  z0 := Tryz.sizeOf0
  v0 := Tryz.zeroValue0
  t4 := Tryz.underlying4
  a4 := Tryz.isAgg4
  z4 := Tryz.sizeOf4
  v4 := Tryz.zeroValue4
  t23 := Tryz.underlying104
  a23 := Tryz.isAgg104
  z23 := Tryz.sizeOf104
  v23 := Tryz.zeroValue104
  t26 := Tryz.underlying3
  a26 := Tryz.isAgg3
  z26 := Tryz.sizeOf3
  v26 := Tryz.zeroValue3
  t27 := Tryz.underlying107
  a27 := Tryz.isAgg107
  z27 := Tryz.sizeOf107
  v27 := Tryz.zeroValue107
  t28 := Tryz.underlying108
  a28 := Tryz.isAgg108
  z28 := Tryz.sizeOf108
  v28 := Tryz.zeroValue108
  t33 := Tryz.underlying147
  a33 := Tryz.isAgg147
  z33 := Tryz.sizeOf147
  v33 := Tryz.zeroValue147 }
def sortedA_ren : Go.Shelf.Ren := ⟨fun | 6 => 35 | 8 => 58 | 9 => 59 | 11 => 74 | 13 => 76 | 12 => 75 | 23 => 97 | 24 => 98 | 14 => 88 | 15 => 89 | 16 => 90 | 17 => 91 | 18 => 92 | 19 => 93 | 20 => 94 | 21 => 95 | 22 => 96 | 25 => 103 | 26 => 104 | 27 => 105 | 28 => 106 | 29 => 107 | 30 => 108 | 31 => 109 | n => n, fun | 26 => 3 | 28 => 108 | 24 => 105 | 0 => 0 | 3 => 3 | 37 => 164 | 48 => 143 | 50 => 31 | 4 => 4 | 40 => 178 | 39 => 177 | 45 => 182 | 5 => 5 | 9 => 9 | 51 => 187 | 55 => 191 | 57 => 193 | 58 => 194 | 33 => 147 | n => n, fun | n => n⟩
theorem sortedA : Go.Proofs.SlLaysZI.n6 Tryz.prog sortedA_ren := {
  mixed := by kernel_rfl
  f6 := ⟨Tryz.f35.name, by decide, Tryz.func35.trans (congrArg some (by kernel_rfl))⟩
  f8 := ⟨Tryz.f58.name, by decide, Tryz.func58.trans (congrArg some (by kernel_rfl))⟩
  f11 := ⟨Tryz.f74.name, by decide, Tryz.func74.trans (congrArg some (by kernel_rfl))⟩
  t0 := Tryz.underlying0
  a0 := Tryz.isAgg0
  z0 := Tryz.sizeOf0
  v0 := Tryz.zeroValue0
  t24 := Tryz.underlying105
  a24 := Tryz.isAgg105
  z24 := Tryz.sizeOf105
  v24 := Tryz.zeroValue105
  t26 := Tryz.underlying3
  a26 := Tryz.isAgg3
  z26 := Tryz.sizeOf3
  v26 := Tryz.zeroValue3
  t28 := Tryz.underlying108
  a28 := Tryz.isAgg108
  z28 := Tryz.sizeOf108
  v28 := Tryz.zeroValue108
  i26 := by kernel_rfl }
def sortA_ren : Go.Shelf.Ren := ⟨fun | 5 => 59 | 8 => 76 | 7 => 75 | 19 => 97 | 20 => 98 | 10 => 88 | 11 => 89 | 12 => 90 | 13 => 91 | 14 => 92 | 15 => 93 | 16 => 94 | 17 => 95 | 18 => 96 | 30 => 103 | 31 => 104 | 32 => 105 | 33 => 106 | 34 => 107 | 35 => 108 | 40 => 109 | n => n, fun | 23 => 105 | 25 => 3 | 3 => 3 | 32 => 164 | 22 => 105 | 0 => 0 | 44 => 143 | 46 => 31 | 4 => 4 | 36 => 178 | 35 => 177 | 41 => 182 | 5 => 5 | 9 => 9 | 53 => 187 | 57 => 191 | 63 => 193 | 64 => 194 | n => n, fun | n => n⟩
theorem sortA : Go.Proofs.SlLaysM.n5 Tryz.prog sortA_ren := {
  mixed := by kernel_rfl
  f5 := ⟨Tryz.f59.name, by decide, Tryz.func59.trans (congrArg some (by kernel_rfl))⟩
  f7 := ⟨Tryz.f75.name, by decide, Tryz.func75.trans (congrArg some (by kernel_rfl))⟩
  f8 := Tryz.func76.trans (congrArg some (by kernel_rfl))
  f10 := ⟨Tryz.f88.name, by decide, Tryz.func88.trans (congrArg some (by kernel_rfl))⟩
  f11 := ⟨Tryz.f89.name, by decide, Tryz.func89.trans (congrArg some (by kernel_rfl))⟩
  f12 := ⟨Tryz.f90.name, by decide, Tryz.func90.trans (congrArg some (by kernel_rfl))⟩
  f13 := ⟨Tryz.f91.name, by decide, Tryz.func91.trans (congrArg some (by kernel_rfl))⟩
  f14 := ⟨Tryz.f92.name, by decide, Tryz.func92.trans (congrArg some (by kernel_rfl))⟩
  f15 := ⟨Tryz.f93.name, by decide, Tryz.func93.trans (congrArg some (by kernel_rfl))⟩
  f16 := ⟨Tryz.f94.name, by decide, Tryz.func94.trans (congrArg some (by kernel_rfl))⟩
  f17 := ⟨Tryz.f95.name, by decide, Tryz.func95.trans (congrArg some (by kernel_rfl))⟩
  f18 := ⟨Tryz.f96.name, by decide, Tryz.func96.trans (congrArg some (by kernel_rfl))⟩
  f19 := Tryz.func97.trans (congrArg some (by kernel_rfl))
  f20 := Tryz.func98.trans (congrArg some (by kernel_rfl))
  f30 := ⟨Tryz.f103.name, by decide, Tryz.func103.trans (congrArg some (by kernel_rfl))⟩
  f31 := Tryz.func104.trans (congrArg some (by kernel_rfl))
  f32 := Tryz.func105.trans (congrArg some (by kernel_rfl))
  f33 := ⟨Tryz.f106.name, by decide, Tryz.func106.trans (congrArg some (by kernel_rfl))⟩
  f34 := ⟨Tryz.f107.name, by decide, Tryz.func107.trans (congrArg some (by kernel_rfl))⟩
  f35 := ⟨Tryz.f108.name, by decide, Tryz.func108.trans (congrArg some (by kernel_rfl))⟩
  f40 := ⟨Tryz.f109.name, by decide, Tryz.func109.trans (congrArg some (by kernel_rfl))⟩
  t0 := Tryz.underlying0
  a0 := Tryz.isAgg0
  z0 := Tryz.sizeOf0
  v0 := Tryz.zeroValue0
  t3 := Tryz.underlying3
  a3 := Tryz.isAgg3
  z3 := Tryz.sizeOf3
  v3 := Tryz.zeroValue3
  t4 := Tryz.underlying4
  a4 := Tryz.isAgg4
  z4 := Tryz.sizeOf4
  v4 := Tryz.zeroValue4
  t5 := Tryz.underlying5
  a5 := Tryz.isAgg5
  z5 := Tryz.sizeOf5
  v5 := Tryz.zeroValue5
  t9 := Tryz.underlying9
  a9 := Tryz.isAgg9
  z9 := Tryz.sizeOf9
  v9 := Tryz.zeroValue9
  t22 := Tryz.underlying105
  a22 := Tryz.isAgg105
  z22 := Tryz.sizeOf105
  v22 := Tryz.zeroValue105
  t23 := Tryz.underlying105
  a23 := Tryz.isAgg105
  z23 := Tryz.sizeOf105
  v23 := Tryz.zeroValue105
  t25 := Tryz.underlying3
  a25 := Tryz.isAgg3
  z25 := Tryz.sizeOf3
  v25 := Tryz.zeroValue3
  t32 := Tryz.underlying164
  a32 := Tryz.isAgg164
  z32 := Tryz.sizeOf164
  v32 := Tryz.zeroValue164
  t35 := Tryz.underlying177
  a35 := Tryz.isAgg177
  z35 := Tryz.sizeOf177
  v35 := Tryz.zeroValue177
  t36 := Tryz.underlying178
  a36 := Tryz.isAgg178
  z36 := Tryz.sizeOf178
  v36 := Tryz.zeroValue178
  t41 := Tryz.underlying182
  a41 := Tryz.isAgg182
  z41 := Tryz.sizeOf182
  v41 := Tryz.zeroValue182
  t44 := Tryz.underlying143
  a44 := Tryz.isAgg143
  z44 := Tryz.sizeOf143
  v44 := Tryz.zeroValue143
  t46 := Tryz.underlying31
  a46 := Tryz.isAgg31
  z46 := Tryz.sizeOf31
  v46 := Tryz.zeroValue31
  t53 := Tryz.underlying187
  a53 := Tryz.isAgg187
  z53 := Tryz.sizeOf187
  v53 := Tryz.zeroValue187
  t57 := Tryz.underlying191
  a57 := Tryz.isAgg191
  z57 := Tryz.sizeOf191
  v57 := Tryz.zeroValue191
  t63 := Tryz.underlying193
  a63 := Tryz.isAgg193
  z63 := Tryz.sizeOf193
  v63 := Tryz.zeroValue193
  t64 := Tryz.underlying194
  a64 := Tryz.isAgg194
  z64 := Tryz.sizeOf194
  v64 := Tryz.zeroValue194 }


theorem sortsA (m : Nat) : AnyZI.SortsIn Tryz.prog sortedA_ren Fence.wide m :=
  ⟨fun blk off cap ss W hH hblk hsz => callsIn_wide.2 (AnyM.slices_Sort_int sortA blk off cap ss W hH hblk hsz), fun p cap W => callsIn_wide.2 (AnyM.slices_Sort_int_none sortA p cap W)⟩
theorem keys_any (mb : Option Nat) (W : World) : Calls Tryz.prog 36 #[.map mb] W fun e w' => e = .returned (.func (.func 60) #[] #[.pointer (some ⟨W.heap.size, 0, none⟩)]) ∧ w' = W.alloc (.cells #[.map mb] 104) :=
  (callsIn_wide (n := 5)).1 (AnyZI.keys_in keysA Fence.wide 5 trivial rfl mb W)
theorem sorted_any {H : Type} (b nn : Nat) (D0 : DataW H) (R : Value → Option (DataW H × List MemPlace)) (w : World) (hown : w.ownsMap Tryz.prog 3 R b nn D0) (hmax : Maps.size D0 ≤ maxLen) (hbytes : Maps.size D0 * 8 ≤ 140737488355328) :
    Calls Tryz.prog 35 #[.func (.func 60) #[] #[.pointer (some ⟨w.heap.size, 0, none⟩)]] (w.alloc (.cells #[.map (some b)] 104)) fun e w' => ∃ (v : Value) (ss : List Int), e = .returned v ∧ ss.Perm (intKeys D0) ∧
      w'.ownsRow w.heap.size 3 1 v ss.length ((ss.mergeSort (fun x y => decide (x ≤ y))).map encZ) ∧ Below w.heap.size w w' := by
  have hbl := hown.lt
  have hseq : SeqGives Fence.wide 2 Tryz.prog 60 #[.pointer (some ⟨w.heap.size, 0, none⟩)] encZ (fun ss => ss.Perm (intKeys D0)) (Maps.size D0) (w.alloc (.cells #[.map (some b)] 104)) :=
    AnyZI.keys_gives (ρ := keysA_ren) { keysA with } Fence.wide _ trivial rfl (by omega) w.heap.size b nn D0 _ (by simp) (by simp) (by
      obtain ⟨es, clock, hb, Ft, hs, hD⟩ := hown
      exact ⟨es, clock, (Below.heap_alloc _ _ b hbl).trans hb, Ft, hs, hD⟩)
  have cS := AnyZI.sorted_in sortedA Fence.wide 5 trivial trivial trivial trivial rfl (by omega) (sortsA _) (enters_of Tryz.func59 (by kernel_rfl) rfl) 60 #[.pointer (some ⟨w.heap.size, 0, none⟩)] trivial (enters_of Tryz.func60 (by kernel_rfl) rfl) _ _ hmax hbytes _ hseq
  change CallsIn _ _ Tryz.prog 35 _ _ _ at cS
  refine (callsIn_wide (n := 5)).1 (cS.mono ?_)
  rintro e w' ⟨v, ss, rfl, hS, hrow, _, hb⟩
  exact ⟨v, ss, rfl, hS, ownsRow_base_a hrow (by simp), ((Below.refl _ w).alloc (Nat.le_refl _) _).trans (hb.mono (by simp))⟩
end Go.Proofs.YtefnkjajjidfaaaGreatDoor
namespace Go.Proofs.YtefnkjajjidfaaaGreatDoor
open Go.RowKit Go.Maps


section
variable {P : Program} {ops : Array Oper} {rest : List Oper} {o : Oper} {a : Act} {w w' : World} {Q : Exit → Act → World → Prop}
theorem wpList_slice_is (hgd : Region.wanted o (yielded ops a.tmps) = true) (ty : TypeId) {x : Operand} (ho : o.op = .buildSlice ty 1 #[(0, x)]) {u v : Value} (hx : a.eval x = u) (hrun : (Instr.buildSlice ty 1 #[(0, u)]).run P w = .ok v w') (h : wpList P ops Q rest (a.put o.dst v) w') : wpList P ops Q (o :: rest) a w :=
  wpList_val hgd (by
    have e : (#[(0, x)] : Array (Nat × Operand)).map (fun (i, y) => (i, a.eval y)) = #[(0, u)] := by simp [hx]
    unfold execOp; simp only [ho]; rw [e]; simp only [Sem.run_bind, hrun, Result.andThen_ok, Sem.run_pure]) h
theorem wpList_append_is (hgd : Region.wanted o (yielded ops a.tmps) = true) {s x : Operand} {t ty : TypeId} (ho : o.op = .call { callee := .builtin .append, args := #[s, x], argTypes := #[t, t] }) (hty : o.type = ty) {u1 u2 v : Value} (hs : a.eval s = u1) (hx : a.eval x = u2) (hrun : (Builtin.append_ #[t, t] ty #[u1, u2]).run P w = .ok v w') (h : wpList P ops Q rest (a.put o.dst v) w') : wpList P ops Q (o :: rest) a w :=
  wpList_val hgd (by subst hty; simp [execOp, ho, resolve, invoke, builtin, hs, hx, hrun, Result.andThen]) h
theorem wpList_lookup_is (hgd : Region.wanted o (yielded ops a.tmps) = true) (ty : TypeId) {m x : Operand} (ho : o.op = .lookup ty m x false) {u1 u2 v : Value} (hm : a.eval m = u1) (hx : a.eval x = u2) (hrun : (Instr.lookup ty u1 u2 false).run P w = .ok v w) (h : wpList P ops Q rest (a.put o.dst v) w) : wpList P ops Q (o :: rest) a w :=
  wpList_val hgd (by unfold execOp; simp only [ho, hm, hx, Sem.run_bind, hrun, Result.andThen_ok, Sem.run_pure]) h
end
/-- the map after images, one behind the other -/
abbrev kI (b : Int) : Lit := .int .i64 b
abbrev hV (v : List Int) : DataW Value := .held (.agg (U8 v).toArray)
def mapD (l : List Im) : DataW Value := l.foldl (fun D x => D.put (kI x.b) (hV x.v)) (.map [])
theorem mapD_snoc (l : List Im) (x : Im) : mapD (l ++ [x]) = (mapD l).put (kI x.b) (hV x.v) := by simp [mapD]
theorem snoc_ind {α : Type} {p : List α → Prop} (h0 : p []) (h1 : ∀ l x, p l → p (l ++ [x])) (l : List α) : p l := by
  have : ∀ m : List α, p m.reverse := fun m => by
    induction m with
    | nil => exact h0
    | cons x m ih => rw [List.reverse_cons]; exact h1 _ _ ih
  have e := this l.reverse
  rwa [List.reverse_reverse] at e
theorem mem_ins (x : Lit × DataW Value) (p : Lit × DataW Value) : ∀ l, p ∈ DataW.insert x l ↔ p = x ∨ p ∈ l
  | [] => by simp [DataW.insert]
  | y :: r => by
    unfold DataW.insert
    by_cases h : x.1.before y.1 = true
    · rw [if_pos h]; exact List.mem_cons
    · rw [if_neg h, List.mem_cons, mem_ins x p r, List.mem_cons]
      exact or_left_comm
theorem mapD_es (l : List Im) : ∃ es, mapD l = .map es ∧ ∀ p ∈ es, ∃ y, p.1 = kI y := by
  refine snoc_ind (p := fun l => ∃ es, mapD l = .map es ∧ ∀ p ∈ es, ∃ y, p.1 = kI y) ⟨[], rfl, fun p h => by cases h⟩ (fun l x h => ?_) l
  obtain ⟨es, e, hk⟩ := h
  refine ⟨_, by rw [mapD_snoc, e]; rfl, fun p hp => ?_⟩
  rcases (mem_ins _ _ _).1 hp with rfl | hp
  · exact ⟨x.b, rfl⟩
  · exact hk p (List.mem_filter.1 hp).1
theorem mapD_isMap (l : List Im) : IsMap (mapD l) := by obtain ⟨es, e, _⟩ := mapD_es l; exact ⟨es, e⟩
theorem kI_ne {a b : Int} (h : a ≠ b) : kI a ≠ kI b := fun e => h (by injection e)
theorem mapD_has (b : Int) : ∀ l, Maps.has (mapD l) (kI b) = decide (b ∈ blks l) := by
  refine snoc_ind (by simp [mapD, Maps.has]) fun l x ih => ?_
  rw [mapD_snoc]
  by_cases h : x.b = b
  · rw [← h, Maps.has_put_same (k := kI x.b) (mapD_isMap l) trivial]; simp
  · rw [Maps.has_put_other (kI_ne fun e => h e.symm), ih]
    simp only [blks, List.map_append, List.map_cons, List.map_nil, List.mem_append, List.mem_singleton]
    by_cases hb : b ∈ l.map (·.b)
    · simp [hb]
    · rw [decide_eq_false hb, decide_eq_false]; rintro (k | k)
      · exact hb k
      · exact h k.symm
theorem mapD_at (b : Int) (z : DataW Value) : ∀ l, b ∈ blks l → (mapD l).atKey (kI b) z = hV (lastV l b) := by
  refine snoc_ind (fun h => by cases h) fun l x ih hb => ?_
  rw [mapD_snoc, lastV_snoc]
  by_cases h : x.b = b
  · rw [if_pos h, ← h, Maps.atKey_put_same (k := kI x.b) (mapD_isMap l) trivial]
  · rw [if_neg h, Maps.atKey_put_other (kI_ne fun e => h e.symm)]
    refine ih ?_
    simp only [blks, List.map_append, List.map_cons, List.map_nil, List.mem_append, List.mem_singleton] at hb
    rcases hb with hb | hb
    · exact hb
    · exact absurd hb.symm h
theorem mapD_keys (l : List Im) (b : Int) : b ∈ intKeys (mapD l) ↔ b ∈ blks l := by
  have hh := mapD_has b l
  obtain ⟨es, e, hk⟩ := mapD_es l
  rw [e] at hh ⊢
  rw [Maps.has_eq] at hh
  constructor
  · intro hb
    obtain ⟨p, hp, e2⟩ := List.mem_map.1 (show b ∈ es.map fun p => Go.intOf p.1 from hb)
    obtain ⟨y, hy⟩ := hk p hp
    have : (es.any fun p => p.1.sameKey (kI b)) = true := List.any_eq_true.2 ⟨p, hp, by rw [hy] at e2 ⊢; have : y = b := e2; subst this; exact WideAt.sameKey_self (a := kI y) trivial⟩
    rw [this] at hh
    exact of_decide_eq_true hh.symm
  · intro hb
    rw [decide_eq_true hb] at hh
    obtain ⟨p, hp, e2⟩ := List.any_eq_true.1 hh
    obtain ⟨y, hy⟩ := hk p hp
    refine List.mem_map.2 ⟨p, hp, ?_⟩
    rw [hy] at e2 ⊢
    show y = b
    by_cases c : y = b
    · exact c
    · rw [Maps.sameKey_ne (kI_ne c)] at e2; cases e2
theorem intKeys_nodup {l : List Im} (h : Tidy (mapD l)) : (intKeys (mapD l)).Nodup := by
  obtain ⟨es, e, hk⟩ := mapD_es l
  obtain ⟨es', e', hp⟩ := h
  rw [e] at e' ⊢
  cases e'
  show (es.map fun p => Go.intOf p.1).Pairwise (· ≠ ·)
  refine List.pairwise_map.2 (hp.imp_of_mem fun {p q} hp' hq' hne e => ?_)
  obtain ⟨y, hy⟩ := hk p hp'
  obtain ⟨z, hz⟩ := hk q hq'
  rw [hy, hz] at e hne
  have : y = z := e
  exact hne (by rw [this])
theorem up_of : ∀ {xs : List Int}, xs.Pairwise (fun x y => decide (x ≤ y) = true) → xs.Nodup → xs.Pairwise (· < ·)
  | [], _, _ => List.Pairwise.nil
  | x :: xs, h, hn => List.pairwise_cons.2 ⟨fun y hy => by
      have h1 := of_decide_eq_true ((List.pairwise_cons.1 h).1 y hy)
      have h2 : x ≠ y := fun e => (List.nodup_cons.1 hn).1 (by rw [e]; exact hy)
      omega, up_of (List.pairwise_cons.1 h).2 (List.nodup_cons.1 hn).2⟩
/-- the keys in their order -/
theorem sorted_up {l : List Im} {ss : List Int} (ht : Tidy (mapD l)) (h : ss.Perm (intKeys (mapD l))) : (ss.mergeSort fun x y => decide (x ≤ y)).Pairwise (· < ·) ∧ ∀ b, b ∈ (ss.mergeSort fun x y => decide (x ≤ y)) ↔ b ∈ blks l := by
  have hp := List.mergeSort_perm ss fun x y => decide (x ≤ y)
  have hs : (ss.mergeSort fun x y => decide (x ≤ y)).Pairwise (fun x y => decide (x ≤ y) = true) := List.pairwise_mergeSort (fun a b c h1 h2 => by have := of_decide_eq_true h1; have := of_decide_eq_true h2; exact decide_eq_true (by omega)) (fun a b => by by_cases c : a ≤ b <;> simp <;> omega) ss
  have hn : (ss.mergeSort fun x y => decide (x ≤ y)).Nodup := (hp.trans h).nodup_iff.2 (intKeys_nodup ht)
  refine ⟨up_of hs hn, fun b => ?_⟩
  · rw [(hp.trans h).mem_iff, mapD_keys]
abbrev RV (v : Value) : Option (DataW Value × List MemPlace) := some (.held v, [])
theorem law3 : Keyed Tryz.prog 3 := int_keyed Tryz.underlying3
theorem zeroVal (w : World) : (zeroValue 55).run Tryz.prog w = .ok (.agg (U8 (zs 32)).toArray) w := zv 55 _ zeroV w
/-- what the map holds at a block -/
theorem look_at {w : World} {B n : Nat} {l : List Im} (h : w.ownsMap Tryz.prog 3 RV B n (mapD l)) {b : Int} (hb : b ∈ blks l) (hw : i64 b) : (Instr.lookup 104 (.map (some B)) (.int .i64 b) false).run Tryz.prog w = .ok (.agg (U8 (lastV l b)).toArray) w := by
  obtain ⟨v, ps, hrun, hv⟩ := h.lookup law3 Tryz.underlying104 (zeroVal w) (zd := .held (.agg (U8 (zs 32)).toArray)) (zp := []) rfl (keyOf_int_mk Tryz.underlying3 (WalkArith.wf_i64 (by unfold i64 at hw; omega)) : keyOf Tryz.prog 3 (.int .i64 b) = some (kI b))
  rw [mapD_at b _ l hb] at hv
  simp only [RV, Option.some.injEq, Prod.mk.injEq, DataW.held.injEq] at hv
  rw [hrun, hv.1]
end Go.Proofs.YtefnkjajjidfaaaGreatDoor
namespace Go.Proofs.YtefnkjajjidfaaaGreatDoor
open Go.RowKit Go.Maps


theorem lastV_wf {l : List Im} (h : ImsWf l) {b : Int} (hb : b ∈ blks l) : (lastV l b).length = 32 ∧ Bytes (lastV l b) ∧ i64 b := by
  induction l with
  | nil => cases hb
  | cons x xs ih =>
    by_cases c : b ∈ blks xs
    · rw [lastV_in c]; exact ih (fun y hy => h y (List.mem_cons.2 (.inr hy))) c
    · have e : b = x.b := (List.mem_cons.1 (show b ∈ x.b :: blks xs from hb)).resolve_right c
      rw [e] at c ⊢
      rw [lastV_new c]
      have := h x (List.mem_cons.2 (.inl rfl))
      exact ⟨this.len, this.byte, this.b⟩
theorem sizeT : (Tryz.prog.info? 59).map (·.size) = some 2 := by kernel_rfl
theorem allocT (w : World) : (Instr.alloc 59 true (.tuple #[])).run Tryz.prog w = .ok (.pointer (some ⟨w.heap.size, 0, none⟩)) (w.alloc (.cells ([.int .u64 0, .slice none 0 0] : List Value).toArray 59)) := by
  simp only [Instr.alloc, Sem.run_bind, zv 59 _ zeroT, Result.andThen_ok]
  simp [newVar, newRow, Value.cells]
theorem store_newT (w : World) (p : Int) (q : Option Addr) (n m : Nat) : (Instr.storeAt 59 (.pointer (some ⟨w.heap.size, 0, none⟩)) (.agg #[.int .u64 p, .slice q n m])).run Tryz.prog (w.alloc (.cells ([.int .u64 0, .slice none 0 0] : List Value).toArray 59)) = .ok () (w.alloc (.cells #[.int .u64 p, .slice q n m] 59)) := by
  have := (LAt.new 59 w [.int .u64 0, .slice none 0 0]).store (ds := [.int .u64 p, .slice q n m]) sizeT rfl (all_oneCell_toArray fun v hv => by
    simp only [List.mem_cons, List.not_mem_nil, or_false] at hv
    rcases hv with rfl | rfl <;> rfl)
  rw [setRow_alloc] at this
  exact this
/-- a transaction's two cells, read -/
theorem load_tx {w : World} {b o : Nat} {p : Int} {u : Value} (h0 : w.cell? ⟨b, o, none⟩ = some (.int .u64 p)) (h1 : w.cell? ⟨b, o + 1, none⟩ = some u) : (Instr.loadAt 59 (.pointer (some ⟨b, o, none⟩))).run Tryz.prog w = .ok (.agg #[.int .u64 p, u]) w := by
  refine run_loadAt_mid w b o 59 [.int .u64 p, u] _ (fun j v hv => ?_) Tryz.underlying59 rfl sizeT
  have hj : j < 2 := (List.getElem?_eq_some_iff.1 hv).1
  have : j = 0 ∨ j = 1 := by omega
  rcases this with rfl | rfl
  · exact h0.trans hv
  · exact h1.trans hv
theorem take_flat (l : List TX) {k : Nat} {t : TX} (h : l[k]? = some t) : flat (l.take (k + 1)) = flat (l.take k) ++ t.ims := by
  have hk := (List.getElem?_eq_some_iff.1 h).1
  have e : l.take (k + 1) = l.take k ++ [t] := by
    rw [List.take_add_one, h]; rfl
  rw [e, flat_snoc]
theorem flat_le (l : List TX) (k : Nat) : (flat (l.take k)).length ≤ (flat l).length := by
  have e : flat l = flat (l.take k) ++ flat (l.drop k) := by
    have := List.take_append_drop k l
    simp only [flat]
    rw [← List.flatMap_append, this]
  rw [e, List.length_append]; omega
theorem flat_bd {l : List TX} {k : Nat} {t : TX} (h : l[k]? = some t) (j : Nat) : (flat (l.take k)).length + (t.ims.take j).length ≤ (flat l).length := by
  have h1 := flat_le l (k + 1)
  rw [take_flat l h, List.length_append] at h1
  have h2 : (t.ims.take j).length ≤ t.ims.length := by rw [List.length_take]; omega
  omega
theorem flat_take_wf {l : List TX} (h : TxsWf l) (k : Nat) : ImsWf (flat (l.take k)) := flat_wf fun t ht => h t (List.mem_of_mem_take ht)

set_option maxHeartbeats 4000000 in
set_option maxRecDepth 100000 in
theorem newest_any (q : Option Addr) (n c : Nat) (txs : List TX) (w : World) (h : XIn w q n txs) (hwf : TxsWf txs) (hn : n ≤ 2000000) (hf : (flat txs).length ≤ 2000000) :
    Calls Tryz.prog 15 #[.slice q n c] w fun e w' => ∃ v, e = .returned v ∧ IOwn w' w.heap.size v (nwS (flat txs)) ∧ Below w.heap.size w w' := by
  have hmm := @run_makeMap Tryz.prog
  have HX : Hid (XIn w q n txs) := h
  have HW : Hid (TxsWf txs) := hwf
  have HF : Hid ((flat txs).length ≤ 2000000) := hf
  have hlen : txs.length = n := h.len
  clear h hwf hf
  go_enter Tryz.func15, Tryz.ntmps15
  go_wp2
  go_loopw [14] (fun i wr => ∃ k : Nat, k ≤ n ∧ i = .int .i64 k ∧ Hid (wr.ownsMap Tryz.prog 3 RV w.heap.size (flat (txs.take k)).length (mapD (flat (txs.take k))) ∧ Below w.heap.size w wr)) (fun i _ => n - (intOf i).toNat)
  case atStart => exact ⟨0, Nat.zero_le _, rfl, World.ownsMap_made _ _ _ _, (Below.refl _ _).alloc (Nat.le_refl _) _⟩
  case round =>
    obtain ⟨k, hk, rfl, HI⟩ := hrel
    by_cases hlt : k < n
    · obtain ⟨t, htk⟩ : ∃ t, txs[k]? = some t := ⟨_, List.getElem?_eq_getElem (by omega)⟩
      have HXr : XIn wr q n txs := HX.out.later HI.out.2
      obtain ⟨g, o, rfl, hcell⟩ := HXr.cells (by omega)
      obtain ⟨q2, c2, e0, e1, mi, m1, m2⟩ := hcell k t htk
      have hm : t.ims.length ≤ 2000000 := by have := flat_bd htk t.ims.length; rw [List.take_length] at this; have := HF.out; omega
      have L17 : Hid (_) := load_tx e0 e1
      have A5 : Hid (_) := allocT wr
      have T5 : Hid (_) := store_newT wr t.p q2 t.ims.length c2
      obtain ⟨w5, hw5⟩ : ∃ y, y = wr.alloc (.cells #[.int .u64 t.p, .slice q2 t.ims.length c2] 59) := ⟨_, rfl⟩
      have l5 : LAt 59 w5 wr.heap.size [.int .u64 t.p, .slice q2 t.ims.length c2] := by rw [hw5]; exact LAt.new 59 wr _
      have c51 : w5.cell? ⟨wr.heap.size, 1, none⟩ = some (.slice q2 t.ims.length c2) := LAt.cell l5 1
      rw [← hw5] at T5
      have HM : Hid (∀ W, Below w.heap.size w W → MIn W q2 t.ims.length t.ims) := by
        intro W hW
        obtain ⟨g', o', e', hcell'⟩ := (HX.out.later hW).cells (by omega)
        obtain ⟨q3, c3, f0, f1, mi3, -, -⟩ := hcell' k t htk
        cases e'
        have f2 := (HX.out.cells (by omega))
        obtain ⟨g4, o4, e4, hc4⟩ := f2
        cases e4
        obtain ⟨q5, c5, k0, k1, -, -, -⟩ := hc4 k t htk
        have a1 : wr.cell? ⟨g, o + k * 2 + 1, none⟩ = some (.slice q5 t.ims.length c5) := (HI.out.2.cell (p := ⟨g, o + k * 2 + 1, none⟩) (World.block_lt_of_cell? w _ k1)).trans k1
        have a2 : W.cell? ⟨g, o + k * 2 + 1, none⟩ = some (.slice q5 t.ims.length c5) := (hW.cell (p := ⟨g, o + k * 2 + 1, none⟩) (World.block_lt_of_cell? w _ k1)).trans k1
        rw [e1] at a1
        rw [f1] at a2
        cases a1; cases a2
        exact mi3
      have I5 : Hid (w5.ownsMap Tryz.prog 3 RV w.heap.size (flat (txs.take k)).length (mapD (flat (txs.take k))) ∧ Below w.heap.size w w5) := by
        rw [hw5]; exact ⟨HI.out.1.alloc _, HI.out.2.alloc HI.out.2.size _⟩
      clear HXr hcell e0 e1 mi hw5 l5 HI
      go_wp2_with ((with_reducible refine at_ops ?_); (first | (refine wpList_load_is (by rfl) 59 rfl rfl L17.out ?_) | (refine wpList_alloc_is (by rfl) 59 rfl A5.out ?_) | (refine wpList_store_is (by rfl) 59 rfl rfl rfl T5.out ?_)); simp only [Act.put, List.setIfInBounds_toArray, List.set_cons_zero, List.set_cons_succ])
      clear L17 A5 T5 c51
      go_loopw [21] (fun i wr => ∃ j : Nat, j ≤ t.ims.length ∧ i = .int .i64 j ∧ Hid (wr.ownsMap Tryz.prog 3 RV w.heap.size ((flat (txs.take k)).length + j) (mapD (flat (txs.take k) ++ t.ims.take j)) ∧ Below w.heap.size w wr)) (fun i _ => t.ims.length - (intOf i).toNat)
      case atStart => exact ⟨0, Nat.zero_le _, rfl, by simpa using I5.out.1, I5.out.2⟩
      case round =>
        obtain ⟨j, hj, rfl, HJ⟩ := hrel
        clear I5
        by_cases hjl : j < t.ims.length
        · obtain ⟨x, hx⟩ : ∃ x, t.ims[j]? = some x := ⟨_, List.getElem?_eq_getElem hjl⟩
          have mi := HM.out _ HJ.out.2
          have hxw := mi.wf x (List.mem_of_getElem? hx)
          obtain ⟨g2, o2, rfl, -⟩ := mi.cells (by omega)
          have L24 : Hid (_) := mi.load hx
          have A7 : Hid (_) := allocI wr
          have T7 : Hid (_) := store_newI wr x hxw.len
          obtain ⟨w7, hw7⟩ : ∃ y, y = wr.alloc (.cells (icells x).toArray 57) := ⟨_, rfl⟩
          have l7 : LAt 57 w7 wr.heap.size (icells x) := by rw [hw7]; exact LAt.new 57 wr _
          have c70 : w7.cell? ⟨wr.heap.size, 0, none⟩ = some (.int .i64 x.b) := LAt.cell l7 0
          have LV : Hid (_) := LAt.loadIv l7 hxw.len
          rw [← hw7] at T7
          have O7 : Hid (w7.ownsMap Tryz.prog 3 RV w.heap.size ((flat (txs.take k)).length + j) (mapD (flat (txs.take k) ++ t.ims.take j)) ∧ Below w.heap.size w w7) := by
            rw [hw7]; exact ⟨HJ.out.1.alloc _, HJ.out.2.alloc HJ.out.2.size _⟩
          have hkey : keyOf Tryz.prog 3 (.int .i64 x.b) = some (kI x.b) := keyOf_int_mk Tryz.underlying3 (WalkArith.wf_i64 (by have := hxw.b; unfold i64 at this; omega))
          have hroom : (flat (txs.take k)).length + j < maxLen := by
            have h1 := flat_bd htk j; rw [List.length_take] at h1; have := HF.out
            have h65 : (3000000 : Nat) ≤ maxLen := by decide
            omega
          have HD : Hid (mapD (flat (txs.take k) ++ t.ims.take (j + 1)) = (mapD (flat (txs.take k) ++ t.ims.take j)).put (kI x.b) (hV x.v)) := by
            show _ = _
            rw [List.take_add_one, hx, ← List.append_assoc]; exact mapD_snoc _ x
          clear mi hw7 l7 HJ
          go_wp2_with ((with_reducible refine at_ops ?_); (first | (refine wpList_load_is (by rfl) 57 rfl rfl L24.out ?_; simp only [Act.put, List.setIfInBounds_toArray, List.set_cons_zero, List.set_cons_succ]) | (refine wpList_load_is (by rfl) 55 rfl rfl LV.out ?_; simp only [Act.put, List.setIfInBounds_toArray, List.set_cons_zero, List.set_cons_succ]) | (refine wpList_alloc_is (by rfl) 57 rfl A7.out ?_; simp only [Act.put, List.setIfInBounds_toArray, List.set_cons_zero, List.set_cons_succ]) | (refine wpList_store_is (by rfl) 57 rfl rfl rfl T7.out ?_; simp only [Act.put]) | (refine wpList_mapUpdate_own _ rfl _ _ _ 104 rfl 3 55 law3 Tryz.underlying104 RV w.heap.size ((flat (txs.take k)).length + j) _ rfl O7.out.1 hroom (.int .i64 x.b) (.agg (U8 x.v).toArray) (kI x.b) rfl rfl hkey (hV x.v) [] rfl ?_; intro w8 hown8 hgrow8; simp only [Act.put])))
          have F8 : Hid (w8.ownsMap Tryz.prog 3 RV w.heap.size ((flat (txs.take k)).length + (j + 1)) (mapD (flat (txs.take k) ++ t.ims.take (j + 1))) ∧ Below w.heap.size w w8) := by
            rw [HD.out]; exact ⟨hown8, O7.out.2.grown hgrow8 O7.out.2.size fun r hr => by cases hr; exact Nat.le_refl _⟩
          clear hown8 hgrow8
          go_wp2_with fail
          go_roundw
          case rel => exact ⟨j + 1, by omega, by go_num, F8.out⟩
          case measure => simp [intOf]; omega
        · obtain rfl : j = t.ims.length := by omega
          have F8 : Hid (wr.ownsMap Tryz.prog 3 RV w.heap.size (flat (txs.take (k + 1))).length (mapD (flat (txs.take (k + 1)))) ∧ Below w.heap.size w wr) := by
            show _ ∧ _
            rw [take_flat txs htk, List.length_append]
            have := HJ.out
            rw [List.take_length] at this
            exact this
          clear HJ
          go_wp2_with fail
          go_roundw
          case rel => exact ⟨k + 1, by omega, by go_num, F8.out⟩
          case measure => simp [intOf]; omega
    · obtain rfl : n = k := by omega
      have HO : Hid (wr.ownsMap Tryz.prog 3 RV w.heap.size (flat txs).length (mapD (flat txs)) ∧ Below w.heap.size w wr) := by
        show _ ∧ _
        have := HI.out
        rw [← hlen, List.take_length] at this
        exact this
      clear HI
      go_wp2_with fail
      refine (keys_any (some w.heap.size) wr).mono ?_
      rintro e w1 ⟨rfl, rfl⟩
      go_wp2_with fail
      have hsz := HO.out.1.size_le
      refine (sorted_any w.heap.size _ (mapD (flat txs)) RV wr HO.out.1 (by have := HF.out; have h65 : (3000000 : Nat) ≤ maxLen := (by decide); omega) (by have := HF.out; omega)).mono ?_
      rintro e w2 ⟨v2, ss, rfl, hS, hrow, hb2⟩
      obtain ⟨up, mem⟩ := sorted_up (HO.out.1.tidy law3) hS
      obtain ⟨Ks, hKs⟩ : ∃ Ks, (ss.mergeSort fun x y => decide (x ≤ y)) = Ks := ⟨_, rfl⟩
      have hl2 : Ks.length = ss.length := by rw [← hKs]; exact List.length_mergeSort ss
      have hle : ss.length ≤ 2000000 := by
        have h1 := hS.length_eq
        have h2 : (intKeys (mapD (flat txs))).length = Maps.size (mapD (flat txs)) := by
          obtain ⟨es, e', -⟩ := mapD_es (flat txs)
          rw [e']; simp [intKeys, Maps.size]
        have := HF.out; omega
      rw [hKs] at up mem hrow
      have HUp : Hid (Ks.Pairwise (· < ·) ∧ ∀ b, b ∈ Ks ↔ b ∈ blks (flat txs)) := ⟨up, mem⟩
      rw [← hl2] at hrow hle
      have HO2 : Hid (w2.ownsMap Tryz.prog 3 RV w.heap.size (flat txs).length (mapD (flat txs)) ∧ Below w.heap.size w w2) := by
        refine ⟨HO.out.1.kept (row := none) ⟨hb2.os, hb2.tape, hb2.output, hb2.size, fun k hk _ => hb2.block k hk⟩ (by simp), HO.out.2.trans (hb2.mono HO.out.2.size)⟩
      have HR2 : Hid (w2.ownsRow wr.heap.size 3 1 v2 Ks.length (Ks.map encZ)) := hrow
      obtain ⟨q2, c2, rfl, hcell2⟩ : ∃ q2 c2, v2 = .slice q2 Ks.length c2 ∧ (0 < Ks.length → ∃ g, q2 = some ⟨g, 0, none⟩) := by
        rcases hrow.2 with ⟨e, e2⟩ | ⟨g, cap, cur, e, -⟩
        · exact ⟨none, 0, by rw [e, e2], fun h => by omega⟩
        · exact ⟨_, cap, e, fun _ => ⟨g, rfl⟩⟩
      obtain ⟨B2, hB2⟩ : ∃ B2, B2 = wr.heap.size := ⟨_, rfl⟩
      rw [← hB2] at HR2
      clear hB2
      clear HO hsz up mem hS hrow hb2 hKs hl2
      obtain ⟨B3, hB3⟩ : ∃ B3, B3 = w2.heap.size := ⟨_, rfl⟩
      have hB30 : w.heap.size ≤ B3 := by rw [hB3]; exact HO2.out.2.size
      go_wp2_with fail
      go_loopw [8, 36] (fun out i wr' => ∃ j : Nat, j ≤ Ks.length ∧ i = .int .i64 j ∧ Hid (IOwn wr' B3 out ((Ks.take j).map fun b => (⟨b, lastV (flat txs) b⟩ : Im)) ∧ wr'.ownsMap Tryz.prog 3 RV w.heap.size (flat txs).length (mapD (flat txs)) ∧ wr'.ownsRow B2 3 1 (.slice q2 Ks.length c2) Ks.length (Ks.map encZ) ∧ Below w.heap.size w wr' ∧ B3 ≤ wr'.heap.size)) (fun _ i _ => Ks.length - (intOf i).toNat)
      case atStart => exact ⟨0, Nat.zero_le _, rfl, World.ownsRow_nil _ _ _ _, HO2.out.1, HR2.out, HO2.out.2, by omega⟩
      case round =>
        obtain ⟨j, hj, rfl, HJ⟩ := hrel
        clear HO2 HR2
        by_cases hjl : j < Ks.length
        · obtain ⟨g2, rfl⟩ := hcell2 (by omega)
          obtain ⟨b, hb⟩ : ∃ b, Ks[j]? = some b := ⟨_, List.getElem?_eq_getElem hjl⟩
          have hbm : b ∈ blks (flat txs) := (HUp.out.2 b).1 (List.mem_of_getElem? hb)
          obtain ⟨lw1, lw2, lw3⟩ := lastV_wf (flat_wf HW.out) hbm
          have ck : wr.cell? ⟨g2, j, none⟩ = some (.int .i64 b) := by
            have := HJ.out.2.2.1.cells (g := g2) rfl j (.int .i64 b) (by rw [List.getElem?_map, hb]; rfl)
            rw [Addr.add_mid, Nat.zero_add] at this; exact this
          have LK : Hid (_) := look_at HJ.out.2.1 hbm lw3
          have UI : Hid (_) := buildI wr b (lastV (flat txs) b) lw1
          have SI : Hid (_) := build_im wr ⟨b, lastV (flat txs) b⟩ lw1
          have hlj : ((Ks.take j).map fun b => (⟨b, lastV (flat txs) b⟩ : Im)).length = j := by rw [List.length_map, List.length_take]; omega
          obtain ⟨i0, hi0, hz0, hz1, hz2⟩ := info_parts infoI
          have h65 : (3000000 : Nat) ≤ maxLen := by decide
          obtain ⟨v', w4, hrun, hown', hgrow, -⟩ := run_append_own (P := Tryz.prog) (wr.alloc (.cells (icells ⟨b, lastV (flat txs) b⟩).toArray 57)) B3 52 52 57 i0 _ 33 40 Tryz.underlying52 hi0 hz0 hz1 hz2 rfl (by decide) u8 _ _ (HJ.out.1.alloc _) ⟨wr.heap.size, 0, none⟩ 1 1 (icells ⟨b, lastV (flat txs) b⟩) (by rw [icells_len lw1]) (fun j u hu => by
            rw [Addr.add_mid, Nat.zero_add, LAt.cell (LAt.new 57 wr (icells ⟨b, lastV (flat txs) b⟩)) j]; exact hu) (icells_ones _) (by omega) (by omega) (by have := HJ.out.2.2.2.2; simp; omega)
          have AP : Hid (_) := hrun
          have F4 : Hid (IOwn w4 B3 v' ((Ks.take (j + 1)).map fun b => (⟨b, lastV (flat txs) b⟩ : Im)) ∧ w4.ownsMap Tryz.prog 3 RV w.heap.size (flat txs).length (mapD (flat txs)) ∧ w4.ownsRow B2 3 1 (.slice (some ⟨g2, 0, none⟩) Ks.length c2) Ks.length (Ks.map encZ) ∧ Below w.heap.size w w4 ∧ B3 ≤ w4.heap.size) := by
            have hr := HJ.out.1
            refine ⟨?_, ?_, ?_, ?_, ?_⟩
            · rw [List.take_add_one, hb]
              show IOwn w4 B3 v' (((Ks.take j) ++ [b]).map _)
              rw [List.map_append, List.map_cons, List.map_nil, IOwn, IC_snoc, List.length_append, List.length_singleton]
              exact hown'
            · refine (HJ.out.2.1.alloc _).kept hgrow fun e => ?_
              have := (hr.lt _ e.symm).1
              rcases hr.2 with ⟨e1, _⟩ | ⟨g5, cap5, cur5, e1, e2, e3, _⟩
              · rw [e1] at e; cases e
              · rw [e1] at e
                simp only [Value.ownBlock, Option.some.injEq] at e
                obtain ⟨es, clk, hm, -⟩ := HJ.out.2.1
                rw [e, e3] at hm; cases hm
            · exact (HJ.out.2.2.1.alloc _).kept hgrow (own_ne HJ.out.2.2.1 hr (by decide))
            · exact (HJ.out.2.2.2.1.alloc HJ.out.2.2.2.1.size _).grown hgrow (by have := HJ.out.2.2.2.1.size; simp; omega) fun r er => Nat.le_trans hB30 (hr.lt r er).1
            · have := hgrow.size; have := HJ.out.2.2.2.2; simp at *; omega
          clear hrun hown' hgrow HJ hlj
          go_wp2_with ((with_reducible refine at_ops ?_); (first | (refine wpList_lookup_is (u1 := .map (some w.heap.size)) (u2 := .int .i64 b) (by rfl) 104 rfl rfl rfl LK.out ?_) | (refine wpList_build_is (vs := [(0, .int .i64 b), (1, .agg (U8 (lastV (flat txs) b)).toArray)]) (by rfl) 57 rfl (by rfl) UI.out ?_) | (refine wpList_slice_is (u := .agg (icells ⟨b, lastV (flat txs) b⟩).toArray) (by rfl) 52 rfl rfl SI.out ?_) | (refine wpList_append_is (u1 := u8) (u2 := .slice (some ⟨wr.heap.size, 0, none⟩) 1 1) (by rfl) rfl rfl rfl rfl AP.out ?_)); simp only [Act.put, List.setIfInBounds_toArray, List.set_cons_zero, List.set_cons_succ])
          go_roundw
          case rel => exact ⟨j + 1, by omega, by go_num, F4.out⟩
          case measure => simp [intOf]; omega
        · obtain rfl : j = Ks.length := by omega
          go_wp2_with fail
          go_ret
          have := HJ.out.1
          rw [List.take_length, nw_eq (flat txs) Ks HUp.out.1 HUp.out.2] at this
          exact ⟨_, rfl, own_at this (fun g hg => Nat.le_trans hB30 (this.lt g hg).1) rfl, HJ.out.2.2.2.1⟩
end Go.Proofs.YtefnkjajjidfaaaGreatDoor
namespace Go.Proofs.YtefnkjajjidfaaaGreatDoor
open Go.RowKit


theorem fldsI : Tryz.prog.underlying 57 = some (.struct (Tryz.prog.fieldsOf 57)) := by kernel_rfl
theorem heldI : Tryz.prog.stoodInHeld 57 = false := by kernel_rfl
theorem eqgI : Tryz.prog.eqGuardType Tryz.prog.depth 57 = false := by kernel_rfl
def flI : List (Bool × TypeId × Nat) := [(true, 3, 0), (true, 55, 1)]
theorem flI_is : fl Tryz.prog 57 = flI := by kernel_rfl
theorem sizeOfV (w : World) : (sizeOf 55).run Tryz.prog w = .ok 32 w := by
  cases hi : Tryz.prog.info? 55 with
  | none => have := sizeV; simp [hi] at this
  | some i =>
    have h := sizeV
    simp only [hi, Option.map_some, Option.some.injEq] at h
    simp [sizeOf, typeInfo, hi, h]
set_option maxRecDepth 100000 in
theorem partV (w : World) (i : Im) (h : i.v.length = 32) : (part 55 (icells i).toArray 1).run Tryz.prog w = .ok (.agg (U8 i.v).toArray) w := by
  have hagg : (isAgg 55).run Tryz.prog w = .ok true w := by
    unfold isAgg
    rw [Sem.run_bind, run_underlying Tryz.underlying55 w]
    rfl
  have hx : (icells i).toArray.extract 1 (1 + 32) = (U8 i.v).toArray := by
    rw [List.extract_toArray]
    congr 1
    show ((icells i).drop 1).take (1 + 32 - 1) = _
    rw [show (icells i).drop 1 = U8 i.v from rfl, List.take_of_length_le (by rw [U8_length, h]; omega)]
  simp only [part, Sem.run_bind, hagg, Result.andThen_ok, if_true, sizeOfV, Sem.run_pure, hx]
def imB (i j : Im) : Bool := i.b == j.b && decide (i.v = j.v)
theorem imB_iff (i j : Im) : imB i j = true ↔ i = j := by
  obtain ⟨a, b⟩ := i; obtain ⟨c, d⟩ := j
  simp [imB]
theorem equalI (w : World) (d : Nat) (i j : Im) (hi : i.v.length = 32) (hj : j.v.length = 32) : (Op.equalIn (d + 3) 57 (.agg (icells i).toArray) (.agg (icells j).toArray)).run Tryz.prog w = .ok (imB i j) w := by
  rw [run_equalIn_struct w (d + 2) 57 _ _ fldsI heldI, eqParts_of, show (Tryz.prog.fieldsOf 57).toList.map (fun f => (decide (f.name ≠ "_"), f.type, f.offset)) = flI from flI_is]
  unfold flI imB
  rw [eqParts_cons w _ _ _ 3 0 _ (part3 w (icells i) 0 i.b rfl) (part3 w (icells j) 0 j.b rfl) (run_equalIn_int w (d + 1) 3 .i64 .i64 _ _ Tryz.underlying3),
    eqParts_cons w _ _ _ 55 1 _ (partV w i hi) (partV w j hj) (equalV w d i.v j.v hi hj)]
  have e0 : (eqParts (d + 2) (icells i).toArray (icells j).toArray []).run Tryz.prog w = .ok true w := by rw [eqParts]; exact Sem.run_pure ..
  rw [e0]
  cases (i.b == j.b) <;> cases decide (i.v = j.v) <;> simp
theorem eqlI (w : World) (i j : Im) (hi : i.v.length = 32) (hj : j.v.length = 32) : (binOp .eql 57 (.agg (icells i).toArray) (.agg (icells j).toArray)).run Tryz.prog w = .ok (.bool (imB i j)) w := by
  rw [run_eql_struct, equalI w 9997 i j hi hj]; rfl
theorem neqI (w : World) (i j : Im) (hi : i.v.length = 32) (hj : j.v.length = 32) : (binOp .neq 57 (.agg (icells i).toArray) (.agg (icells j).toArray)).run Tryz.prog w = .ok (.bool (!imB i j)) w := by
  rw [run_neq_struct, equalI w 9997 i j hi hj]; rfl
theorem fill_at {f : Nat → Option (Nat × Nat)} {i off : Nat} {cs : List Value} (hf : f i = some (off, cs.length)) {L : List Value} (hl : off + cs.length ≤ L.length) (rest : List (Nat × Value)) :
    Instr.fill f L.toArray ((i, .agg cs.toArray) :: rest) = Instr.fill f (L.take off ++ cs ++ L.drop (off + cs.length)).toArray rest := by
  have a0 := part_fill off cs L hl
  have a1 : cs.toArray.zipIdx.foldl (fun cs x => match x with | (c, j) => cs.setIfInBounds (off + j) c) L.toArray = (L.take off ++ cs ++ L.drop (off + cs.length)).toArray := a0
  simp only [Instr.fill, hf, Value.cells, List.size_toArray]
  rw [if_neg (by simp; omega), a1]
theorem fill_two' {sz : Nat} {cs ds : List Value} (hc : cs.length = sz) (hd : ds.length = sz) (B : Array Value) (hB : B.size = 2 * sz) : Instr.fill (fun i => some (i * sz, sz)) B [(0, .agg cs.toArray), (1, .agg ds.toArray)] = some (cs ++ ds).toArray := by
  obtain ⟨L⟩ := B
  have hL : L.length = 2 * sz := hB
  rw [fill_at (off := 0) (cs := cs) (by simp [hc]) (by omega), fill_at (off := sz) (cs := ds) (by simp [hd]) (by simp; omega)]
  show some _ = some _
  congr 2
  rw [List.take_zero, List.nil_append, Nat.zero_add, hc, hd]
  rw [List.take_append_of_le_length (by omega), List.take_of_length_le (by omega), List.drop_of_length_le (by simp; omega), List.append_nil]
theorem build_im2 (w : World) (i j : Im) (hi' : i.v.length = 32) (hj' : j.v.length = 32) : (Instr.buildSlice 52 2 #[(0, .agg (icells i).toArray), (1, .agg (icells j).toArray)]).run Tryz.prog w = .ok (.slice (some ⟨w.heap.size, 0, none⟩) 2 2) (w.alloc (.cells (IC [i, j]).toArray 57)) := by
  obtain ⟨i0, hi, hz0, hz1, hz2⟩ := info_parts infoI
  refine run_buildSlice w 52 57 2 _ _ i0 _ Tryz.underlying52 hi hz0 (by rw [hz1]; decide) (by rw [hz1]; decide) ?_
  rw [hz1]
  have e : IC [i, j] = icells i ++ icells j := by simp [IC]
  rw [e]
  exact fill_two' (icells_len hi') (icells_len hj') _ (by simp)
theorem buildT1 (w : World) (q : Option Addr) (n m : Nat) : (Instr.build 59 #[(1, .slice q n m)]).run Tryz.prog w = .ok (.agg #[.int .u64 0, .slice q n m]) w :=
  run_build w 59 _ _ ((built_of 59 _ _ _ placesT zeroT).trans rfl)
theorem build_tx2 (w : World) (p q : Option Addr) (a b c d : Nat) : (Instr.buildSlice 37 2 #[(0, .agg #[.int .u64 0, .slice p a b]), (1, .agg #[.int .u64 0, .slice q c d])]).run Tryz.prog w = .ok (.slice (some ⟨w.heap.size, 0, none⟩) 2 2) (w.alloc (.cells #[.int .u64 0, .slice p a b, .int .u64 0, .slice q c d] 59)) := by
  obtain ⟨i0, hi, hz0, hz1, hz2⟩ := info_parts infoT
  refine run_buildSlice w 37 59 2 _ _ i0 _ Tryz.underlying37 hi hz0 (by rw [hz1]; decide) (by rw [hz1]; decide) ?_
  rw [hz1]
  exact fill_two' (cs := [.int .u64 0, .slice p a b]) (ds := [.int .u64 0, .slice q c d]) rfl rfl _ (by simp)
set_option maxRecDepth 100000 in
theorem buildV1 (w : World) (x : Int) : (Instr.build 55 #[(0, .int .u8 x)]).run Tryz.prog w = .ok (.agg (U8 (x :: zs 31)).toArray) w := run_build w 55 _ _ (by rfl)
set_option maxRecDepth 100000 in
theorem buildV3 (w : World) (x y z : Int) : (Instr.build 55 #[(0, .int .u8 x), (1, .int .u8 y), (2, .int .u8 z)]).run Tryz.prog w = .ok (.agg (U8 (x :: y :: z :: zs 29)).toArray) w := run_build w 55 _ _ (by rfl)
end Go.Proofs.YtefnkjajjidfaaaGreatDoor
namespace Go.Proofs.YtefnkjajjidfaaaGreatDoor
open Go.RowKit

set_option maxHeartbeats 1000000 in
set_option maxRecDepth 100000 in
theorem sameImages_eq (p q : Option Addr) (n c d : Nat) (l : List Im) (w : World) (h : MIn w p n l) (k : MIn w q n l) (hbig : n ≤ 140737488355328) :
    Calls Tryz.prog 30 #[.slice p n c, .slice q n d] w fun e w' => e = .returned (.bool true) ∧ Below w.heap.size w w' := by
  have HP : Hid (MIn w p n l) := h
  have HQ : Hid (MIn w q n l) := k
  have e1 : (((n : Nat) : Int) != (n : Int)) = false := by simp
  clear h k
  go_enter Tryz.func30, Tryz.ntmps30
  go_wp2_with fail
  clear e1
  go_loopw [5] (fun i wr => ∃ j : Nat, j ≤ n ∧ i = .int .i64 j ∧ Hid (Below w.heap.size w wr)) (fun i _ => n - (intOf i).toNat)
  case atStart => exact ⟨0, Nat.zero_le _, rfl, Below.refl _ _⟩
  case round =>
    obtain ⟨j, hj, rfl, Br⟩ := hrel
    by_cases hlt : j < n
    · have h0 : 0 < n := by omega
      obtain ⟨x, hx⟩ : ∃ x, l[j]? = some x := ⟨_, List.getElem?_eq_getElem (by rw [HP.out.len]; exact hlt)⟩
      obtain ⟨b1, o1, rfl, -⟩ := HP.out.cells h0
      obtain ⟨b2, o2, rfl, -⟩ := HQ.out.cells h0
      have R1 : Hid (w.rangeAt b1 (o1 + j * 33) (icells x)) := HP.out.at hx
      have R2 : Hid (w.rangeAt b2 (o2 + j * 33) (icells x)) := HQ.out.at hx
      have L1 : Hid (x.v.length = 32) := (HP.out.wf x (List.mem_of_getElem? hx)).len
      have M1 : Hid (b1 < w.heap.size) := range_lt R1.out (by rw [icells_len L1.out]; omega)
      have M2 : Hid (b2 < w.heap.size) := range_lt R2.out (by rw [icells_len L1.out]; omega)
      have QE : Hid (∀ w, (binOp .neq 57 (.agg (icells x).toArray) (.agg (icells x).toArray)).run Tryz.prog w = .ok (.bool false) w) := fun w => by rw [neqI w _ _ L1.out L1.out, (imB_iff x x).2 rfl]; rfl
      have i1 : (j : Int) < (n : Int) := by omega
      have i0 : (0 : Int) ≤ (j : Int) := by omega
      clear hx
      obtain ⟨wv, hwv⟩ : ∃ wv, wv = wr := ⟨_, rfl⟩
      subst hwv
      go_wp2_with fail
      refine wp_region_noPanic ?_
      refine wp_region_held_drew (S := fun w' => Below wv.heap.size wv w') (by kernel_rfl) (below_drawn 1) (fun hHeld => ?_)
      have DD : Hid (Below wv.heap.size wv wv.drew) := hHeld
      generalize wv.drew = wd at *
      refine wpAnyH_take (i := 0) (v := ?va1) (by simp; rfl) (by kernel_rfl) (by kernel_rfl) (by kernel_rfl) (fun _ _ _ h => h) (Or.inl ⟨by rfl, ?ya1⟩) hHeld ?ra1
      case ya1 => intro w hSw; clear hSw; go_simp; with_reducible rfl
      simp only [Act.put, List.setIfInBounds_toArray, List.set_cons_zero, List.set_cons_succ]
      refine wpAnyH_take (i := 1) (v := ?va2) (by simp; rfl) (by kernel_rfl) (by kernel_rfl) (by kernel_rfl) (fun _ _ _ h => h) (Or.inl ⟨by rfl, ?ya2⟩) hHeld ?ra2
      case ya2 => intro w hSw; clear hSw; go_simp; with_reducible rfl
      simp only [Act.put, List.setIfInBounds_toArray, List.set_cons_zero, List.set_cons_succ]
      refine wpAnyH_take (i := 2) (v := ?va3) (by simp; rfl) (by kernel_rfl) (by kernel_rfl) (by kernel_rfl) (fun _ _ _ h => h) (Or.inl ⟨by rfl, ?ya3⟩) hHeld ?ra3
      case ya3 => intro w hSw; clear hSw; go_simp; with_reducible rfl
      simp only [Act.put, List.setIfInBounds_toArray, List.set_cons_zero, List.set_cons_succ]
      refine wpAnyH_take (i := 3) (v := _) (by simp; rfl) (by kernel_rfl) (by kernel_rfl) (by kernel_rfl) (fun _ _ _ h => h) (yieldsIf_load_mid (by rfl) 57 (.tmp 19) rfl b1 (o1 + j * 33) rfl (icells x) _ (fun _ h => rangeAt_same R1.out ((Br.out.trans (h.mono Br.out.size)).block b1 M1.out)) Tryz.underlying57 rfl (by rw [sizeI, icells_len L1.out])) hHeld ?_
      simp only [Act.put, List.setIfInBounds_toArray, List.set_cons_zero, List.set_cons_succ]
      refine wpAnyH_take (i := 4) (v := ?va4) (by simp; rfl) (by kernel_rfl) (by kernel_rfl) (by kernel_rfl) (fun _ _ _ h => h) (Or.inl ⟨by rfl, ?ya4⟩) hHeld ?ra4
      case ya4 => intro w hSw; clear hSw; go_simp; with_reducible rfl
      simp only [Act.put, List.setIfInBounds_toArray, List.set_cons_zero, List.set_cons_succ]
      refine wpAnyH_take (i := 5) (v := ?va5) (by simp; rfl) (by kernel_rfl) (by kernel_rfl) (by kernel_rfl) (fun _ _ _ h => h) (Or.inl ⟨by rfl, ?ya5⟩) hHeld ?ra5
      case ya5 => intro w hSw; clear hSw; go_simp; with_reducible rfl
      simp only [Act.put, List.setIfInBounds_toArray, List.set_cons_zero, List.set_cons_succ]
      refine wpAnyH_take (i := 6) (v := ?va6) (by simp; rfl) (by kernel_rfl) (by kernel_rfl) (by kernel_rfl) (fun _ _ _ h => h) (Or.inl ⟨by rfl, ?ya6⟩) hHeld ?ra6
      case ya6 => intro w hSw; clear hSw; go_simp; with_reducible rfl
      simp only [Act.put, List.setIfInBounds_toArray, List.set_cons_zero, List.set_cons_succ]
      refine wpAnyH_take (i := 7) (v := _) (by simp; rfl) (by kernel_rfl) (by kernel_rfl) (by kernel_rfl) (fun _ _ _ h => h) (yieldsIf_load_mid (by rfl) 57 (.tmp 23) rfl b2 (o2 + j * 33) rfl (icells x) _ (fun _ h => rangeAt_same R2.out ((Br.out.trans (h.mono Br.out.size)).block b2 M2.out)) Tryz.underlying57 rfl (by rw [sizeI, icells_len L1.out])) hHeld ?_
      simp only [Act.put, List.setIfInBounds_toArray, List.set_cons_zero, List.set_cons_succ]
      refine wpAnyH_take (i := 8) (v := _) (by simp; rfl) (by kernel_rfl) (by kernel_rfl) (by kernel_rfl) (fun _ _ _ h => h) (yields_neq_is (by rfl) 57 rfl rfl rfl eqgI QE.out) hHeld ?_
      simp only [Act.put, List.setIfInBounds_toArray, List.set_cons_zero, List.set_cons_succ]
      clear hHeld
      refine wpAnyH_done (by kernel_rfl) (NoPanic.normal ?_) _
      have B3 : Hid (Below w.heap.size w wd) := below_then Br.out DD.out
      clear Br QE R1 R2 L1 DD
      go_wp2_with fail
      go_roundw
      case rel => exact ⟨j + 1, by omega, by go_num, B3.out⟩
      case measure => simp [intOf]; omega
    · have hnl : ¬ (j : Int) < (n : Int) := by omega
      go_wp2_with fail
      go_ret
      exact ⟨rfl, Br.out⟩
set_option maxHeartbeats 2000000 in
set_option maxRecDepth 100000 in
theorem same_eq (t0 l0 f0 : Int) (p q : Option Addr) (n c d : Nat) (txs : List TX) (w : World) (h : XIn w p n txs) (k : XIn w q n txs) (hn : n ≤ 100000) (hm : ∀ x ∈ txs, x.ims.length ≤ 100000) :
    Calls Tryz.prog 9 #[.agg (gcells t0 l0 f0 (.slice p n c)).toArray, .agg (gcells t0 l0 f0 (.slice q n d)).toArray] w fun e w' => e = .returned (.bool true) ∧ Below w.heap.size w w' := by
  have e1 : (((n : Nat) : Int) != (n : Int)) = false := by simp
  have e2 : (t0 != t0) = false := by simp
  have e3 : (l0 != l0) = false := by simp
  have e4 : (f0 != f0) = false := by simp
  obtain ⟨wa, hwa⟩ : ∃ y, y = w.alloc (.cells (gcells t0 l0 f0 (.slice p n c)).toArray 34) := ⟨_, rfl⟩
  obtain ⟨wb, hwb⟩ : ∃ y, y = wa.alloc (.cells (gcells t0 l0 f0 (.slice q n d)).toArray 34) := ⟨_, rfl⟩
  have ewa := hwa.symm
  have ewb := hwb.symm
  have sa : wa.heap.size = w.heap.size + 1 := by rw [hwa]; simp
  have bw : Below w.heap.size w wa := by rw [hwa]; exact below_alloc w _
  have bab : Below wa.heap.size wa wb := by rw [hwb]; exact below_alloc wa _
  have LA : Hid (LAt 34 wb w.heap.size (gcells t0 l0 f0 (.slice p n c))) := by
    refine LAt.later ?_ bab
    rw [hwa]; exact LAt.new 34 w _
  have LB : Hid (LAt 34 wb (w.heap.size + 1) (gcells t0 l0 f0 (.slice q n d))) := by rw [hwb, ← sa]; exact LAt.new 34 wa _
  have B0 : Hid (Below w.heap.size w wb) := below_then bw bab
  have XP : Hid (XIn wb p n txs) := h.later B0.out
  have XQ : Hid (XIn wb q n txs) := k.later B0.out
  have HM : Hid (∀ x ∈ txs, x.ims.length ≤ 100000) := hm
  have a0 : wb.cell? ⟨w.heap.size, 0, none⟩ = some (.int .u64 t0) := LAt.cell LA.out 0
  have a1 : wb.cell? ⟨w.heap.size, 1, none⟩ = some (.int .u64 l0) := LAt.cell LA.out 1
  have a2 : wb.cell? ⟨w.heap.size, 2, none⟩ = some (.int .u64 f0) := LAt.cell LA.out 2
  have a3 : wb.cell? ⟨w.heap.size, 3, none⟩ = some (.slice p n c) := LAt.cell LA.out 3
  have c0 : wb.cell? ⟨w.heap.size + 1, 0, none⟩ = some (.int .u64 t0) := LAt.cell LB.out 0
  have c1' : wb.cell? ⟨w.heap.size + 1, 1, none⟩ = some (.int .u64 l0) := LAt.cell LB.out 1
  have c2' : wb.cell? ⟨w.heap.size + 1, 2, none⟩ = some (.int .u64 f0) := LAt.cell LB.out 2
  have c3' : wb.cell? ⟨w.heap.size + 1, 3, none⟩ = some (.slice q n d) := LAt.cell LB.out 3
  clear hwa hwb bw bab h k hm
  go_enter Tryz.func9, Tryz.ntmps9
  go_wp2_with fail
  clear e1 e2 e3 e4 a0 a1 a2 a3 c0 c1' c2' c3' ewa ewb
  go_loopw [5] (fun i wr => ∃ j : Nat, j ≤ n ∧ i = .int .i64 j ∧ Hid (Below wb.heap.size wb wr)) (fun i _ => n - (intOf i).toNat)
  case atStart => exact ⟨0, Nat.zero_le _, rfl, Below.refl _ _⟩
  case round =>
    obtain ⟨j, hj, rfl, Br⟩ := hrel
    have ka : wr.cell? ⟨w.heap.size, 3, none⟩ = some (.slice p n c) := LAt.cell (LAt.later LA.out Br.out) 3
    by_cases hlt : j < n
    · obtain ⟨t, ht⟩ : ∃ t, txs[j]? = some t := ⟨_, List.getElem?_eq_getElem (by rw [XP.out.len]; exact hlt)⟩
      obtain ⟨b1, o1, rfl, hc1⟩ := (XP.out.later Br.out).cells (by omega)
      obtain ⟨b2, o2, rfl, hc2⟩ := (XQ.out.later Br.out).cells (by omega)
      obtain ⟨q1, c1, x1, x2, x3, -, -⟩ := hc1 j t ht
      obtain ⟨q2, c2, y1, y2, y3, -, -⟩ := hc2 j t ht
      have X1 : Hid (MIn wr q1 t.ims.length t.ims) := x3
      have X2 : Hid (MIn wr q2 t.ims.length t.ims) := y3
      have hml : t.ims.length ≤ 100000 := HM.out t (List.mem_of_getElem? ht)
      have e5 : (t.p != t.p) = false := by simp
      obtain ⟨wv, hwv⟩ : ∃ wv, wv = wr := ⟨_, rfl⟩
      subst hwv
      have HA : Hid (∀ W, Below wv.heap.size wv W → W.cell? ⟨w.heap.size, 3, none⟩ = some (.slice (some ⟨b1, o1, none⟩) n c) ∧ W.cell? ⟨w.heap.size + 1, 3, none⟩ = some (.slice (some ⟨b2, o2, none⟩) n d) ∧ W.cell? ⟨b1, o1 + j * 2, none⟩ = some (.int .u64 t.p) ∧ W.cell? ⟨b2, o2 + j * 2, none⟩ = some (.int .u64 t.p) ∧ W.cell? ⟨b1, o1 + j * 2 + 1, none⟩ = some (.slice q1 t.ims.length c1) ∧ W.cell? ⟨b2, o2 + j * 2 + 1, none⟩ = some (.slice q2 t.ims.length c2)) := by
        intro W hW
        have m1 := World.block_lt_of_cell? wv _ x1
        have m2 := World.block_lt_of_cell? wv _ y1
        refine ⟨LAt.cell (LAt.later (LAt.later LA.out Br.out) hW) 3, LAt.cell (LAt.later (LAt.later LB.out Br.out) hW) 3, (World.cell?_of_block (hW.block _ m1)).trans x1, (World.cell?_of_block (hW.block _ m2)).trans y1, (World.cell?_of_block (a := ⟨b1, o1 + j * 2 + 1, none⟩) (hW.block b1 m1)).trans x2, (World.cell?_of_block (a := ⟨b2, o2 + j * 2 + 1, none⟩) (hW.block b2 m2)).trans y2⟩
      have i1 : (j : Int) < (n : Int) := by omega
      have i0 : (0 : Int) ≤ (j : Int) := by omega
      clear hc1 hc2 x1 x2 x3 y1 y2 y3
      go_wp2_with fail
      clear ka
      refine wp_region_noPanic ?_
      refine wp_region_held_drew (S := fun w' => Below wv.heap.size wv w') (by kernel_rfl) (below_drawn 1) (fun hHeld => ?_)
      have D1 : Hid (Below wv.heap.size wv wv.drew) := hHeld
      generalize wv.drew = wd at *
      refine wpAnyH_take (i := 0) (v := ?va7) (by simp; rfl) (by kernel_rfl) (by kernel_rfl) (by kernel_rfl) (fun _ _ _ h => h) (Or.inl ⟨by rfl, ?ya7⟩) hHeld ?ra7
      case ya7 => intro w hSw; clear hSw; go_simp; with_reducible rfl
      simp only [Act.put, List.setIfInBounds_toArray, List.set_cons_zero, List.set_cons_succ]
      refine wpAnyH_take (i := 1) (v := ?va8) (by simp; rfl) (by kernel_rfl) (by kernel_rfl) (by kernel_rfl) (fun _ _ _ h => h) (Or.inl ⟨by rfl, ?ya8⟩) hHeld ?ra8
      case ya8 => intro w hSw; have z := (HA.out _ hSw).1; clear hSw; go_simp; with_reducible rfl
      simp only [Act.put, List.setIfInBounds_toArray, List.set_cons_zero, List.set_cons_succ]
      refine wpAnyH_take (i := 2) (v := ?va9) (by simp; rfl) (by kernel_rfl) (by kernel_rfl) (by kernel_rfl) (fun _ _ _ h => h) (Or.inl ⟨by rfl, ?ya9⟩) hHeld ?ra9
      case ya9 => intro w hSw; clear hSw; go_simp; with_reducible rfl
      simp only [Act.put, List.setIfInBounds_toArray, List.set_cons_zero, List.set_cons_succ]
      refine wpAnyH_take (i := 3) (v := ?va10) (by simp; rfl) (by kernel_rfl) (by kernel_rfl) (by kernel_rfl) (fun _ _ _ h => h) (Or.inl ⟨by rfl, ?ya10⟩) hHeld ?ra10
      case ya10 => intro w hSw; clear hSw; go_simp; with_reducible rfl
      simp only [Act.put, List.setIfInBounds_toArray, List.set_cons_zero, List.set_cons_succ]
      refine wpAnyH_take (i := 4) (v := ?va11) (by simp; rfl) (by kernel_rfl) (by kernel_rfl) (by kernel_rfl) (fun _ _ _ h => h) (Or.inl ⟨by rfl, ?ya11⟩) hHeld ?ra11
      case ya11 => intro w hSw; clear hSw; go_simp; with_reducible rfl
      simp only [Act.put, List.setIfInBounds_toArray, List.set_cons_zero, List.set_cons_succ]
      refine wpAnyH_take (i := 5) (v := ?va12) (by simp; rfl) (by kernel_rfl) (by kernel_rfl) (by kernel_rfl) (fun _ _ _ h => h) (Or.inl ⟨by rfl, ?ya12⟩) hHeld ?ra12
      case ya12 => intro w hSw; have z := (HA.out _ hSw).2.2.1; clear hSw; go_simp; with_reducible rfl
      simp only [Act.put, List.setIfInBounds_toArray, List.set_cons_zero, List.set_cons_succ]
      refine wpAnyH_take (i := 6) (v := ?va13) (by simp; rfl) (by kernel_rfl) (by kernel_rfl) (by kernel_rfl) (fun _ _ _ h => h) (Or.inl ⟨by rfl, ?ya13⟩) hHeld ?ra13
      case ya13 => intro w hSw; clear hSw; go_simp; with_reducible rfl
      simp only [Act.put, List.setIfInBounds_toArray, List.set_cons_zero, List.set_cons_succ]
      refine wpAnyH_take (i := 7) (v := ?va14) (by simp; rfl) (by kernel_rfl) (by kernel_rfl) (by kernel_rfl) (fun _ _ _ h => h) (Or.inl ⟨by rfl, ?ya14⟩) hHeld ?ra14
      case ya14 => intro w hSw; have z := (HA.out _ hSw).2.1; clear hSw; go_simp; with_reducible rfl
      simp only [Act.put, List.setIfInBounds_toArray, List.set_cons_zero, List.set_cons_succ]
      refine wpAnyH_take (i := 8) (v := ?va15) (by simp; rfl) (by kernel_rfl) (by kernel_rfl) (by kernel_rfl) (fun _ _ _ h => h) (Or.inl ⟨by rfl, ?ya15⟩) hHeld ?ra15
      case ya15 => intro w hSw; clear hSw; go_simp; with_reducible rfl
      simp only [Act.put, List.setIfInBounds_toArray, List.set_cons_zero, List.set_cons_succ]
      refine wpAnyH_take (i := 9) (v := ?va16) (by simp; rfl) (by kernel_rfl) (by kernel_rfl) (by kernel_rfl) (fun _ _ _ h => h) (Or.inl ⟨by rfl, ?ya16⟩) hHeld ?ra16
      case ya16 => intro w hSw; clear hSw; go_simp; with_reducible rfl
      simp only [Act.put, List.setIfInBounds_toArray, List.set_cons_zero, List.set_cons_succ]
      refine wpAnyH_take (i := 10) (v := ?va17) (by simp; rfl) (by kernel_rfl) (by kernel_rfl) (by kernel_rfl) (fun _ _ _ h => h) (Or.inl ⟨by rfl, ?ya17⟩) hHeld ?ra17
      case ya17 => intro w hSw; clear hSw; go_simp; with_reducible rfl
      simp only [Act.put, List.setIfInBounds_toArray, List.set_cons_zero, List.set_cons_succ]
      refine wpAnyH_take (i := 11) (v := ?va18) (by simp; rfl) (by kernel_rfl) (by kernel_rfl) (by kernel_rfl) (fun _ _ _ h => h) (Or.inl ⟨by rfl, ?ya18⟩) hHeld ?ra18
      case ya18 => intro w hSw; have z := (HA.out _ hSw).2.2.2.1; clear hSw; go_simp; with_reducible rfl
      simp only [Act.put, List.setIfInBounds_toArray, List.set_cons_zero, List.set_cons_succ]
      refine wpAnyH_take (i := 12) (v := ?va19) (by simp; rfl) (by kernel_rfl) (by kernel_rfl) (by kernel_rfl) (fun _ _ _ h => h) (Or.inl ⟨by rfl, ?ya19⟩) hHeld ?ra19
      case ya19 => intro w hSw; clear hSw; go_simp; with_reducible rfl
      simp only [Act.put, List.setIfInBounds_toArray, List.set_cons_zero, List.set_cons_succ]
      refine wpAnyH_take (i := 13) (v := ?va20) (by simp; rfl) (by kernel_rfl) (by kernel_rfl) (by kernel_rfl) (fun _ _ _ h => h) (Or.inl ⟨by rfl, ?ya20⟩) hHeld ?ra20
      case ya20 => intro w hSw; clear hSw; go_simp; with_reducible rfl
      simp only [Act.put, List.setIfInBounds_toArray, List.set_cons_zero, List.set_cons_succ]
      refine wpAnyH_take (i := 14) (v := ?va21) (by simp; rfl) (by kernel_rfl) (by kernel_rfl) (by kernel_rfl) (fun _ _ _ h => h) (Or.inl ⟨by rfl, ?ya21⟩) hHeld ?ra21
      case ya21 => intro w hSw; clear hSw; go_simp; with_reducible rfl
      simp only [Act.put, List.setIfInBounds_toArray, List.set_cons_zero, List.set_cons_succ]
      refine wpAnyH_take (i := 15) (v := ?va22) (by simp; rfl) (by kernel_rfl) (by kernel_rfl) (by kernel_rfl) (fun _ _ _ h => h) (Or.inl ⟨by rfl, ?ya22⟩) hHeld ?ra22
      case ya22 => intro w hSw; have z := (HA.out _ hSw).1; clear hSw; go_simp; with_reducible rfl
      simp only [Act.put, List.setIfInBounds_toArray, List.set_cons_zero, List.set_cons_succ]
      refine wpAnyH_take (i := 16) (v := ?va23) (by simp; rfl) (by kernel_rfl) (by kernel_rfl) (by kernel_rfl) (fun _ _ _ h => h) (Or.inl ⟨by rfl, ?ya23⟩) hHeld ?ra23
      case ya23 => intro w hSw; clear hSw; go_simp; with_reducible rfl
      simp only [Act.put, List.setIfInBounds_toArray, List.set_cons_zero, List.set_cons_succ]
      refine wpAnyH_take (i := 17) (v := ?va24) (by simp; rfl) (by kernel_rfl) (by kernel_rfl) (by kernel_rfl) (fun _ _ _ h => h) (Or.inl ⟨by rfl, ?ya24⟩) hHeld ?ra24
      case ya24 => intro w hSw; clear hSw; go_simp; with_reducible rfl
      simp only [Act.put, List.setIfInBounds_toArray, List.set_cons_zero, List.set_cons_succ]
      refine wpAnyH_take (i := 18) (v := ?va25) (by simp; rfl) (by kernel_rfl) (by kernel_rfl) (by kernel_rfl) (fun _ _ _ h => h) (Or.inl ⟨by rfl, ?ya25⟩) hHeld ?ra25
      case ya25 => intro w hSw; clear hSw; go_simp; with_reducible rfl
      simp only [Act.put, List.setIfInBounds_toArray, List.set_cons_zero, List.set_cons_succ]
      refine wpAnyH_take (i := 19) (v := ?va26) (by simp; rfl) (by kernel_rfl) (by kernel_rfl) (by kernel_rfl) (fun _ _ _ h => h) (Or.inl ⟨by rfl, ?ya26⟩) hHeld ?ra26
      case ya26 => intro w hSw; have z := (HA.out _ hSw).2.2.2.2.1; clear hSw; go_simp; with_reducible rfl
      simp only [Act.put, List.setIfInBounds_toArray, List.set_cons_zero, List.set_cons_succ]
      refine wpAnyH_take (i := 20) (v := ?va27) (by simp; rfl) (by kernel_rfl) (by kernel_rfl) (by kernel_rfl) (fun _ _ _ h => h) (Or.inl ⟨by rfl, ?ya27⟩) hHeld ?ra27
      case ya27 => intro w hSw; clear hSw; go_simp; with_reducible rfl
      simp only [Act.put, List.setIfInBounds_toArray, List.set_cons_zero, List.set_cons_succ]
      refine wpAnyH_take (i := 21) (v := ?va28) (by simp; rfl) (by kernel_rfl) (by kernel_rfl) (by kernel_rfl) (fun _ _ _ h => h) (Or.inl ⟨by rfl, ?ya28⟩) hHeld ?ra28
      case ya28 => intro w hSw; have z := (HA.out _ hSw).2.1; clear hSw; go_simp; with_reducible rfl
      simp only [Act.put, List.setIfInBounds_toArray, List.set_cons_zero, List.set_cons_succ]
      refine wpAnyH_take (i := 22) (v := ?va29) (by simp; rfl) (by kernel_rfl) (by kernel_rfl) (by kernel_rfl) (fun _ _ _ h => h) (Or.inl ⟨by rfl, ?ya29⟩) hHeld ?ra29
      case ya29 => intro w hSw; clear hSw; go_simp; with_reducible rfl
      simp only [Act.put, List.setIfInBounds_toArray, List.set_cons_zero, List.set_cons_succ]
      refine wpAnyH_take (i := 23) (v := ?va30) (by simp; rfl) (by kernel_rfl) (by kernel_rfl) (by kernel_rfl) (fun _ _ _ h => h) (Or.inl ⟨by rfl, ?ya30⟩) hHeld ?ra30
      case ya30 => intro w hSw; clear hSw; go_simp; with_reducible rfl
      simp only [Act.put, List.setIfInBounds_toArray, List.set_cons_zero, List.set_cons_succ]
      refine wpAnyH_take (i := 24) (v := ?va31) (by simp; rfl) (by kernel_rfl) (by kernel_rfl) (by kernel_rfl) (fun _ _ _ h => h) (Or.inl ⟨by rfl, ?ya31⟩) hHeld ?ra31
      case ya31 => intro w hSw; clear hSw; go_simp; with_reducible rfl
      simp only [Act.put, List.setIfInBounds_toArray, List.set_cons_zero, List.set_cons_succ]
      refine wpAnyH_take (i := 25) (v := ?va32) (by simp; rfl) (by kernel_rfl) (by kernel_rfl) (by kernel_rfl) (fun _ _ _ h => h) (Or.inl ⟨by rfl, ?ya32⟩) hHeld ?ra32
      case ya32 => intro w hSw; have z := (HA.out _ hSw).2.2.2.2.2; clear hSw; go_simp; with_reducible rfl
      simp only [Act.put, List.setIfInBounds_toArray, List.set_cons_zero, List.set_cons_succ]
      refine wpAnyH_ready (rs := [26]) (by kernel_rfl) (by simp) ?_
      refine AllReadyH.cons (by simp; rfl) (fun Kc hKc => ?_) AllReadyH.nil
      go_simp
      refine (sameImages_eq q1 q2 t.ims.length c1 c2 t.ims _ (X1.out.later D1.out) (X2.out.later D1.out) (by omega)).mono ?_
      rintro e wn ⟨rfl, bn⟩
      have D2 : Hid (Below wv.heap.size wv wn) := below_then D1.out bn
      refine hKc.out _ _ D2.out (fun hHeld => ?_)
      clear hKc Kc bn
      refine wpAnyH_take (i := 27) (v := ?va33) (by simp; rfl) (by kernel_rfl) (by kernel_rfl) (by kernel_rfl) (fun _ _ _ h => h) (Or.inl ⟨by rfl, ?ya33⟩) hHeld ?ra33
      case ya33 => intro w hSw; clear hSw; go_simp; with_reducible rfl
      simp only [Act.put, List.setIfInBounds_toArray, List.set_cons_zero, List.set_cons_succ]
      refine wpAnyH_take (i := 28) (v := ?va34) (by simp; rfl) (by kernel_rfl) (by kernel_rfl) (by kernel_rfl) (fun _ _ _ h => h) (Or.inl ⟨by rfl, ?ya34⟩) hHeld ?ra34
      case ya34 => intro w hSw; clear hSw; go_simp; with_reducible rfl
      simp only [Act.put, List.setIfInBounds_toArray, List.set_cons_zero, List.set_cons_succ]
      clear hHeld
      refine wpAnyH_done (by kernel_rfl) (NoPanic.normal ?_) _
      have B3 : Hid (Below wb.heap.size wb wn) := below_then Br.out D2.out
      clear Br HA X1 X2 D1 D2
      go_wp2_with fail
      go_roundw
      case rel => exact ⟨j + 1, by omega, by go_num, B3.out⟩
      case measure => simp [intOf]; omega
    · have hnl : ¬ (j : Int) < (n : Int) := by omega
      go_wp2_with fail
      go_ret
      exact ⟨rfl, below_then B0.out Br.out⟩
end Go.Proofs.YtefnkjajjidfaaaGreatDoor
namespace Go.Proofs.YtefnkjajjidfaaaGreatDoor
open Go.RowKit


section
variable {P : Program} {ops : Array Oper} {rest : List Oper} {o : Oper} {a : Act} {w w' : World} {Q : Exit → Act → World → Prop}
theorem wpList_slice2_is (hgd : Region.wanted o (yielded ops a.tmps) = true) (ty : TypeId) {x y : Operand} (ho : o.op = .buildSlice ty 2 #[(0, x), (1, y)]) {u u2 v : Value} (hx : a.eval x = u) (hy : a.eval y = u2) (hrun : (Instr.buildSlice ty 2 #[(0, u), (1, u2)]).run P w = .ok v w') (h : wpList P ops Q rest (a.put o.dst v) w') : wpList P ops Q (o :: rest) a w :=
  wpList_val hgd (by
    have e : (#[(0, x), (1, y)] : Array (Nat × Operand)).map (fun (i, z) => (i, a.eval z)) = #[(0, u), (1, u2)] := by simp [hx, hy]
    unfold execOp; simp only [ho]; rw [e]; simp only [Sem.run_bind, hrun, Result.andThen_ok, Sem.run_pure]) h
end
theorem read_any10 {w : World} {S : Nat → Prop} {p n : Nat} {d : List Int} {ws : List Wr} (h : Dsk w S p n d ws) (ht : Tab w) (c : Sup) :
    Calls Tryz.prog 7 #[.pointer (some ⟨p, 0, none⟩), .agg (ccells c).toArray] w fun e w' => ∃ q cp vs, e = .returned (.tuple #[.agg (gcells (rdL c n (newest ws d)).1.tail (rdL c n (newest ws d)).1.life (rdL c n (newest ws d)).1.fin (.slice q (rdL c n (newest ws d)).1.txs.length cp)).toArray, .int .i64 (rdL c n (newest ws d)).2]) ∧ XOwn 59 w' w.heap.size (.slice q (rdL c n (newest ws d)).1.txs.length cp) (rdL c n (newest ws d)).1.txs vs ∧ Rise vs w'.heap.size ∧ Below w.heap.size w w' := by
  by_cases hz : (supOf c n (newest ws d)).2 = 0
  · rw [rdL_ok hz]
    refine (read_ok10 h ht c hz).mono ?_
    rintro e w' ⟨v, vs, rfl, hx, hr, hb⟩
    obtain ⟨q, cp, rfl, -⟩ := XOwn.in hx
    exact ⟨q, cp, vs, rfl, hx, hr, hb⟩
  · rw [rdL_no hz]
    refine (read_err10 h ht c hz).mono ?_
    rintro e w' ⟨rfl, hb⟩
    exact ⟨none, 0, [], rfl, XOwn.nil _ _ _, Rise.nil _, hb⟩
/-- a superblock that stands -/
theorem supOf_new {c : Sup} (h : MayC c) {rd : Nat → List Int} (h0 : rd 0 = encS (sup1 c)) : supOf c (cntS c) rd = (sup1 c, 0) := by
  have e : decS (rd 0) = (sup1 c, 0) := by rw [h0]; exact decS_encS _ (sup1_wf h) (sup1_may h)
  rw [supOf_ok h (cntS_is h) (by rw [e]) (by rw [e]; exact ⟨rfl, rfl, rfl, rfl, rfl⟩), e]
theorem rdL_new {c : Sup} (h : MayC c) {rd : Nat → List Int} (h0 : rd 0 = encS (sup1 c)) {s : Sc} (hs : scRun (stS c rd) c.mr c.lc.toNat 0 ⟨[], 0, []⟩ = s) : rdL c (cntS c) rd = (⟨0, 1, s.fin, s.txs⟩, 0) := by
  have e := supOf_new h h0
  rw [rdL_ok (by rw [e]), e]
  show (scanS c rd (sup1 c), (0 : Int)) = _
  unfold scanS
  show ((⟨0, 1, (scRun (stS c rd) c.mr c.lc.toNat 0 ⟨[], 0, []⟩).fin, (scRun (stS c rd) c.mr c.lc.toNat 0 ⟨[], 0, []⟩).txs⟩ : LogS), (0 : Int)) = _
  rw [hs]
theorem st_blank {c : Sup} {rd : Nat → List Int} {p : Int} (h : rd (1 + c.bl + p % c.lc).toNat = zs 64) : (stS c rd p).2 = false := by
  rw [stS_no fun k => zs64_no (by rw [← h]; exact k.1)]
theorem rdL_empty {c : Sup} (h : MayC c) : rdL c (cntS c) (newest [] (newS c)) = (⟨0, 1, 0, []⟩, 0) := by
  have st := Sty.start h
  refine rdL_new h st.sup (s := ⟨[], 0, []⟩) (scRun_off ?_)
  refine st_blank ?_
  have hl := h.2.1
  have := st.blank 0 (Int.le_refl 0) (by omega)
  exact this
def sm10 : Sup := ⟨3, 4, 2, 4, 1, 0, 0⟩
theorem sm10_may : MayC sm10 := by decide
set_option maxHeartbeats 1000000 in
set_option maxRecDepth 100000 in
theorem small_any (w : World) : Calls Tryz.prog 14 #[] w fun e w' => e = .returned (.agg (ccells sm10).toArray) ∧ Below w.heap.size w w' := by
  have A1 : Hid (_) := alloc23 w
  have U1 : Hid (_) := build23 (w.alloc (.cells (ccells sup0).toArray 23)) #[(0, .int .i64 3), (1, .int .i64 4), (2, .int .i64 2), (3, .int .i64 4), (4, .int .i64 1)] sm10 (fill_cfgs sm10)
  have S1 : Hid (_) := store_new23 w sm10
  go_enter Tryz.func14, Tryz.ntmps14
  go_wp2_with ((with_reducible refine at_ops ?_); (first | (refine wpList_alloc_is (by rfl) 23 rfl A1.out ?_) | (refine wpList_build_is (vs := [(0, .int .i64 3), (1, .int .i64 4), (2, .int .i64 2), (3, .int .i64 4), (4, .int .i64 1)]) (by rfl) 23 rfl (by rfl) U1.out ?_) | (refine wpList_store_is (by rfl) 23 rfl rfl rfl S1.out ?_)); simp only [Act.put, List.setIfInBounds_toArray, List.set_cons_zero, List.set_cons_succ])
  exact bodyPost_ret (results_cell1 Tryz.results14 _ _ w.heap.size 23 _ _ (by rfl) (LAt.new 23 w _) Tryz.underlying23 rfl size23) rfl ⟨rfl, below_alloc w _⟩
theorem num_any (x : Int) (w : World) : Calls Tryz.prog 8 #[.int .i64 x] w fun e w' => e = .returned (.int .i64 x) ∧ w = w' := by
  go_enter Tryz.func8, Tryz.ntmps8
  go_wp2
  go_ret
  exact ⟨rfl, rfl⟩
def v1 : List Int := 1 :: zs 31
def v3 : List Int := 3 :: zs 31
def tl10 : List TX := [⟨0, [⟨0, v1⟩, ⟨2, zs 32⟩]⟩, ⟨0, [⟨0, v3⟩]⟩]
theorem v1_wf : Im.Wf ⟨0, v1⟩ := ⟨by decide, rfl, Bytes.cons (by omega) (zs_bytes 31)⟩
theorem v3_wf : Im.Wf ⟨0, v3⟩ := ⟨by decide, rfl, Bytes.cons (by omega) (zs_bytes 31)⟩
theorem v2_wf : Im.Wf ⟨2, zs 32⟩ := ⟨by decide, rfl, zs_bytes 32⟩
theorem tl10_wf : TxsWf tl10 := by
  intro t ht
  simp only [tl10, List.mem_cons, List.not_mem_nil, or_false] at ht
  rcases ht with rfl | rfl
  · refine ⟨by decide, fun i hi => ?_⟩
    simp only [List.mem_cons, List.not_mem_nil, or_false] at hi
    rcases hi with rfl | rfl
    · exact v1_wf
    · exact v2_wf
  · refine ⟨by decide, fun i hi => ?_⟩
    simp only [List.mem_cons, List.not_mem_nil, or_false] at hi
    rw [hi]; exact v3_wf
theorem tl10_new : nwS (flat tl10) = [⟨0, v3⟩, ⟨2, zs 32⟩] := by rfl
set_option maxHeartbeats 4000000 in
set_option maxRecDepth 100000 in
theorem awake_any (w : World) (ht : Tab w) : Calls Tryz.prog 4 #[] w fun e w' => e = .returned (.bool true) ∧ Below w.heap.size w w' := by
  have HT : Hid (Tab w) := ht
  clear ht
  go_enter Tryz.func4, Tryz.ntmps4
  go_wp2_with fail
  refine (small_any _).mono ?_
  rintro e w1 ⟨rfl, b1⟩
  go_wp2_with fail
  refine (hnew_good sm10 sm10_may w1 (HT.out.later b1)).mono ?_
  rintro e w2 ⟨p, rfl, d2, b2⟩
  have B2 : Hid (Below w.heap.size w w2) := below_then b1 b2
  have D2 : Hid (Dsk w2 (fun k => w1.heap.size ≤ k) p (cntS sm10) (newS sm10) []) := d2
  clear d2 b1 b2
  go_wp2_with (go_at_call 8; refine (num_any _ _).mono ?_; rintro e wn ⟨rfl, rfl⟩)
  refine (small_any _).mono ?_
  rintro e w3 ⟨rfl, b3⟩
  have B3 : Hid (Below w.heap.size w w3) := below_then B2.out b3
  have D3 : Hid (Dsk w3 (fun k => w1.heap.size ≤ k) p (cntS sm10) (newS sm10) []) := D2.out.later b3
  clear D2 b3
  go_wp2_with fail
  refine (read_any10 D3.out (HT.out.later B3.out) sm10).mono ?_
  rintro e w4 ⟨q4, cp4, vs4, rfl, -, -, b4⟩
  rw [rdL_empty sm10_may]
  have B4 : Hid (Below w.heap.size w w4) := below_then B3.out b4
  have D4 : Hid (Dsk w4 (fun k => w1.heap.size ≤ k) p (cntS sm10) (newS sm10) []) := D3.out.later b4
  have A4 : Hid (_) := allocLg w4
  have T4 : Hid (_) := storeLg w4 0 1 0 (v := .slice q4 0 cp4) rfl
  obtain ⟨w5, hw5⟩ : ∃ y, y = w4.alloc (.cells (gcells 0 1 0 (.slice q4 0 cp4)).toArray 39) := ⟨_, rfl⟩
  rw [← hw5] at T4
  have b5 : Below w4.heap.size w4 w5 := by rw [hw5]; exact below_alloc w4 _
  have B5 : Hid (Below w.heap.size w w5) := below_then B4.out b5
  have D5 : Hid (Dsk w5 (fun k => w1.heap.size ≤ k) p (cntS sm10) (newS sm10) []) := D4.out.later b5
  have L5 : Hid (LAt 39 w5 w4.heap.size (gcells 0 1 0 (.slice q4 0 cp4))) := by rw [hw5]; exact LAt.new 39 w4 _
  clear hw5 b5 b4 D3 D4 B3 B2
  go_wp2_with ((with_reducible refine at_ops ?_); (first | (refine wpList_alloc_is (by rfl) 39 rfl A4.out ?_) | (refine wpList_store_is (by rfl) 39 rfl rfl rfl T4.out ?_) | (refine wpList_store_is (by rfl) 39 rfl rfl rfl T4.out ?_)); simp only [Act.put, List.setIfInBounds_toArray, List.set_cons_zero, List.set_cons_succ])
  refine (small_any _).mono ?_
  rintro e w6 ⟨rfl, b6⟩
  go_wp2_with fail
  refine (read_nil10 sm10 w6).mono ?_
  rintro e w7 ⟨rfl, b7⟩
  have b57 := below_then b6 b7
  have B7 : Hid (Below w.heap.size w w7) := below_then B5.out b57
  have D7 : Hid (Dsk w7 (fun k => w1.heap.size ≤ k) p (cntS sm10) (newS sm10) []) := D5.out.later b57
  have L7 : Hid (LAt 39 w7 w4.heap.size (gcells 0 1 0 (.slice q4 0 cp4))) := LAt.later L5.out b57
  clear b6 b7 b57 D5 L5 B5 A4 T4
  have A7 : Hid (_) := allocLg w7
  have T7 : Hid (_) := storeLg w7 0 0 0 (v := .slice none 0 0) rfl
  obtain ⟨w8, hw8⟩ : ∃ y, y = w7.alloc (.cells (gcells 0 0 0 (.slice none 0 0)).toArray 39) := ⟨_, rfl⟩
  rw [← hw8] at T7 A7
  have b8 : Below w7.heap.size w7 w8 := by rw [hw8]; exact below_alloc w7 _
  clear hw8
  go_wp2_with ((with_reducible refine at_ops ?_); (first | (refine wpList_alloc_is (by rfl) 39 rfl A7.out ?_) | (refine wpList_store_is (by rfl) 39 rfl rfl rfl T7.out ?_) | (refine wpList_alloc_is (by rfl) 39 rfl A7.out ?_)); simp only [Act.put, List.setIfInBounds_toArray, List.set_cons_zero, List.set_cons_succ])
  refine (small_any _).mono ?_
  rintro e w9 ⟨rfl, b9⟩
  have A9 : Hid (_) := alloc23 w9
  have T9 : Hid (_) := store_new23 w9 sm10
  obtain ⟨w10, hw10⟩ : ∃ y, y = w9.alloc (.cells (ccells sm10).toArray 23) := ⟨_, rfl⟩
  rw [← hw10] at T9
  have b10 : Below w9.heap.size w9 w10 := by rw [hw10]; exact below_alloc w9 _
  have C10 : CAt w10 w9.heap.size sm10 := by rw [hw10]; exact LAt.new 23 w9 _
  have c101 : w10.cell? ⟨w9.heap.size, 1, none⟩ = some (.int .i64 4) := CAt.c1 C10
  have f101 := LAt.free C10 1
  have C11 : CAt (w10.setCell ⟨w9.heap.size, 1, none⟩ (.int .i64 5)) w9.heap.size ⟨3, 5, 2, 4, 1, 0, 0⟩ := LAt.set C10 1 (.int .i64 5)
  have L11 : Hid (_) := CAt.load23 C11
  have b7_10 : Below w7.heap.size w7 w10 := below_then b8 (below_then b9 b10)
  have b7_11 : Below w7.heap.size w7 (w10.setCell ⟨w9.heap.size, 1, none⟩ (.int .i64 5)) := b7_10.setCell (p := ⟨w9.heap.size, 1, none⟩) (by have := b8.size; have := b9.size; show w7.heap.size ≤ w9.heap.size; omega) _
  obtain ⟨w11, hw11⟩ : ∃ y, w10.setCell ⟨w9.heap.size, 1, none⟩ (.int .i64 5) = y := ⟨_, rfl⟩
  rw [hw11] at L11 b7_11
  have B11 : Hid (Below w.heap.size w w11) := below_then B7.out b7_11
  have D11 : Hid (Dsk w11 (fun k => w1.heap.size ≤ k) p (cntS sm10) (newS sm10) []) := D7.out.later b7_11
  have M11 : Hid (LAt 39 w11 w4.heap.size (gcells 0 1 0 (.slice q4 0 cp4))) := LAt.later L7.out b7_11
  clear b8 b9 hw10 b10 C10 C11 b7_10 b7_11 D7 L7 B7 A7 T7
  go_wp2_with ((with_reducible refine at_ops ?_); (first | (refine wpList_alloc_is (by rfl) 23 rfl A9.out ?_) | (refine wpList_store_is (by rfl) 23 rfl rfl rfl T9.out ?_) | (refine wpList_load_is (by rfl) 23 rfl rfl L11.out ?_)); simp only [Act.put, List.setIfInBounds_toArray, List.set_cons_zero, List.set_cons_succ])
  refine (read_any10 D11.out (HT.out.later B11.out) ⟨3, 5, 2, 4, 1, 0, 0⟩).mono ?_
  rintro e w12 ⟨q12, cp12, vs12, rfl, -, -, b12⟩
  rw [show rdL ⟨3, 5, 2, 4, 1, 0, 0⟩ (cntS sm10) (newest [] (newS sm10)) = (log0, 40) from by rw [rdL_no (by rw [supOf_len _ (by decide) (by decide)]; decide), supOf_len _ (by decide) (by decide)]]
  have B12 : Hid (Below w.heap.size w w12) := below_then B11.out b12
  have L12 : Hid (LAt 39 w12 w4.heap.size (gcells 0 1 0 (.slice q4 0 cp4))) := LAt.later M11.out b12
  clear b12 M11 B11 D11 L11 A9 T9 c101 f101 hw11
  have A12 : Hid (_) := allocLg w12
  have T12 : Hid (_) := storeLg w12 0 0 0 (v := .slice q12 0 cp12) rfl
  obtain ⟨w13, hw13⟩ : ∃ y, y = w12.alloc (.cells (gcells 0 0 0 (.slice q12 0 cp12)).toArray 39) := ⟨_, rfl⟩
  rw [← hw13] at T12
  have b13 : Below w12.heap.size w12 w13 := by rw [hw13]; exact below_alloc w12 _
  have V1 : Hid (_) := buildV1 w13 1
  have I1 : Hid (_) := buildI w13 0 v1 rfl
  have I2 : Hid (_) := buildIb w13 2
  have S2 : Hid (_) := build_im2 w13 ⟨0, v1⟩ ⟨2, zs 32⟩ rfl (zs_len 32)
  obtain ⟨w14, hw14⟩ : ∃ y, y = w13.alloc (.cells (IC [⟨0, v1⟩, ⟨2, zs 32⟩]).toArray 57) := ⟨_, rfl⟩
  rw [← hw14] at S2
  have b14 : Below w13.heap.size w13 w14 := by rw [hw14]; exact below_alloc w13 _
  have r14 : LAt 57 w14 w13.heap.size (IC [⟨0, v1⟩, ⟨2, zs 32⟩]) := by rw [hw14]; exact LAt.new 57 w13 _
  have X1 : Hid (_) := buildT1 w14 (some ⟨w13.heap.size, 0, none⟩) 2 2
  have V3 : Hid (_) := buildV1 w14 3
  have I3 : Hid (_) := buildI w14 0 v3 rfl
  have S3 : Hid (_) := build_im w14 ⟨0, v3⟩ rfl
  obtain ⟨w15, hw15⟩ : ∃ y, y = w14.alloc (.cells (icells ⟨0, v3⟩).toArray 57) := ⟨_, rfl⟩
  rw [← hw15] at S3
  have b15 : Below w14.heap.size w14 w15 := by rw [hw15]; exact below_alloc w14 _
  have r15 : LAt 57 w15 w14.heap.size (icells ⟨0, v3⟩) := by rw [hw15]; exact LAt.new 57 w14 _
  have X2 : Hid (_) := buildT1 w15 (some ⟨w14.heap.size, 0, none⟩) 1 1
  have S4 : Hid (_) := build_tx2 w15 (some ⟨w13.heap.size, 0, none⟩) (some ⟨w14.heap.size, 0, none⟩) 2 2 1 1
  obtain ⟨w16, hw16⟩ : ∃ y, y = w15.alloc (.cells #[.int .u64 0, .slice (some ⟨w13.heap.size, 0, none⟩) 2 2, .int .u64 0, .slice (some ⟨w14.heap.size, 0, none⟩) 1 1] 59) := ⟨_, rfl⟩
  rw [← hw16] at S4
  have b16 : Below w15.heap.size w15 w16 := by rw [hw16]; exact below_alloc w15 _
  have r16 : LAt 59 w16 w15.heap.size [.int .u64 0, .slice (some ⟨w13.heap.size, 0, none⟩) 2 2, .int .u64 0, .slice (some ⟨w14.heap.size, 0, none⟩) 1 1] := by rw [hw16]; exact LAt.new 59 w15 _
  have X16 : Hid (XIn w16 (some ⟨w15.heap.size, 0, none⟩) 2 tl10) := by
    refine ⟨rfl, fun _ => ⟨_, _, rfl, fun k t hk => ?_⟩⟩
    have hk2 : k < 2 := (List.getElem?_eq_some_iff.1 hk).1
    have : k = 0 ∨ k = 1 := by omega
    rcases this with rfl | rfl
    · cases hk
      refine ⟨_, 2, LAt.cell r16 0, LAt.cell r16 1, ⟨rfl, (tl10_wf _ (List.mem_cons.2 (.inl rfl))).ims, fun _ => ⟨_, _, rfl, LAt.range (LAt.later (LAt.later r14 b15) b16)⟩⟩, Nat.le_refl _, by decide⟩
    · cases hk
      refine ⟨_, 1, LAt.cell r16 2, LAt.cell r16 3, ⟨rfl, (tl10_wf _ (List.mem_cons.2 (.inr (List.mem_cons.2 (.inl rfl))))).ims, fun _ => ⟨_, _, rfl, ?_⟩⟩, Nat.le_refl _, by decide⟩
      have := LAt.range (LAt.later r15 b16)
      show w16.rangeAt _ 0 (IC [⟨0, v3⟩])
      rw [show IC [(⟨0, v3⟩ : Im)] = icells ⟨0, v3⟩ from by simp [IC]]
      exact this
  have b12_16 : Below w12.heap.size w12 w16 := below_then b13 (below_then b14 (below_then b15 b16))
  have B16 : Hid (Below w.heap.size w w16) := below_then B12.out b12_16
  have L16 : Hid (LAt 39 w16 w4.heap.size (gcells 0 1 0 (.slice q4 0 cp4))) := LAt.later L12.out b12_16
  clear hw13 hw14 hw15 hw16 b13 b14 b15 b16 r14 r15 r16 b12_16 B12 L12
  go_wp2_with ((with_reducible refine at_ops ?_); (first | (refine wpList_alloc_is (by rfl) 39 rfl A12.out ?_) | (refine wpList_store_is (by rfl) 39 rfl rfl rfl T12.out ?_) | (refine wpList_build_is (vs := [(0, .int .u8 1)]) (by rfl) 55 rfl (by rfl) V1.out ?_) | (refine wpList_build_is (vs := [(0, .int .i64 0), (1, .agg (U8 v1).toArray)]) (by rfl) 57 rfl (by rfl) I1.out ?_) | (refine wpList_build_is (vs := [(0, .int .i64 2)]) (by rfl) 57 rfl (by rfl) I2.out ?_) | (refine wpList_slice2_is (u := .agg (icells ⟨0, v1⟩).toArray) (u2 := .agg (icells ⟨2, zs 32⟩).toArray) (by rfl) 52 rfl rfl rfl S2.out ?_) | (refine wpList_build_is (vs := [(1, .slice (some ⟨w13.heap.size, 0, none⟩) 2 2)]) (by rfl) 59 rfl (by rfl) X1.out ?_) | (refine wpList_build_is (vs := [(0, .int .u8 3)]) (by rfl) 55 rfl (by rfl) V3.out ?_) | (refine wpList_build_is (vs := [(0, .int .i64 0), (1, .agg (U8 v3).toArray)]) (by rfl) 57 rfl (by rfl) I3.out ?_) | (refine wpList_slice_is (u := .agg (icells ⟨0, v3⟩).toArray) (by rfl) 52 rfl rfl S3.out ?_) | (refine wpList_build_is (vs := [(1, .slice (some ⟨w14.heap.size, 0, none⟩) 1 1)]) (by rfl) 59 rfl (by rfl) X2.out ?_) | (refine wpList_slice2_is (u := .agg #[.int .u64 0, .slice (some ⟨w13.heap.size, 0, none⟩) 2 2]) (u2 := .agg #[.int .u64 0, .slice (some ⟨w14.heap.size, 0, none⟩) 1 1]) (by rfl) 37 rfl rfl rfl S4.out ?_)); simp only [Act.put, List.setIfInBounds_toArray, List.set_cons_zero, List.set_cons_succ])
  refine (newest_any (some ⟨w15.heap.size, 0, none⟩) 2 2 tl10 w16 X16.out tl10_wf (by omega) (by decide)).mono ?_
  rintro e w17 ⟨v17, rfl, o17, b17⟩
  rw [tl10_new] at o17
  obtain ⟨q17, cp17, rfl, m17, -, -⟩ := IOwn.in o17 (by
    intro i hi
    simp only [List.mem_cons, List.not_mem_nil, or_false] at hi
    rcases hi with rfl | rfl
    · exact v3_wf
    · exact v2_wf)
  obtain ⟨g17, f17, rfl, -⟩ := m17.cells (show 0 < 2 by omega)
  have B17 : Hid (Below w.heap.size w w17) := below_then B16.out b17
  have L17 := LAt.later L16.out b17
  have k0 : w17.cell? ⟨w4.heap.size, 0, none⟩ = some (.int .u64 0) := LAt.cell L17 0
  have k1 : w17.cell? ⟨w4.heap.size, 1, none⟩ = some (.int .u64 1) := LAt.cell L17 1
  have k2 : w17.cell? ⟨w4.heap.size, 2, none⟩ = some (.int .u64 0) := LAt.cell L17 2
  have k3 : w17.cell? ⟨w4.heap.size, 3, none⟩ = some (.slice q4 0 cp4) := LAt.cell L17 3
  have LI : Hid (_) := m17.load (k := 0) (i := ⟨0, v3⟩) rfl
  have ci : w17.cell? ⟨g17, f17 + 1 * 33, none⟩ = some (.int .i64 2) := m17.c0 (k := 1) (i := ⟨2, zs 32⟩) rfl
  have V17 : Hid (_) := buildV1 w17 3
  have I17 : Hid (_) := buildI w17 0 v3 rfl
  have E17 : Hid (_) := eqlI w17 ⟨0, v3⟩ ⟨0, v3⟩ rfl rfl
  rw [(imB_iff ⟨0, v3⟩ ⟨0, v3⟩).2 rfl] at E17
  rw [Nat.zero_mul, Nat.add_zero] at LI
  clear o17 b17 L17 m17 B16 L16 X16 V1 I1 I2 S2 X1 V3 I3 S3 X2 S4 A12 T12
  go_wp2_with (first | (go_at_call 8; refine (num_any _ _).mono ?_; rintro e wn ⟨rfl, rfl⟩) | ((with_reducible refine at_ops ?_); (first | (refine wpList_load_is (by rfl) 57 rfl rfl LI.out ?_) | (refine wpList_build_is (vs := [(0, .int .u8 3)]) (by rfl) 55 rfl (by rfl) V17.out ?_) | (refine wpList_build_is (vs := [(0, .int .i64 0), (1, .agg (U8 v3).toArray)]) (by rfl) 57 rfl (by rfl) I17.out ?_) | (refine wpList_eql_is (by rfl) 57 rfl rfl rfl eqgI E17.out ?_)); simp only [Act.put, List.setIfInBounds_toArray, List.set_cons_zero, List.set_cons_succ]))
  go_ret
  exact ⟨rfl, B17.out⟩
end Go.Proofs.YtefnkjajjidfaaaGreatDoor
namespace Go.Proofs.YtefnkjajjidfaaaGreatDoor
open Go.RowKit


section
variable {P : Program} {ops : Array Oper} {o : Oper} {a : Act} {w w' : World} {Q : Exit → Act → World → Prop} {K : Act → World → Prop}
theorem sq_val (hgd : Region.wanted o (yielded ops a.tmps) = true) {v : Value} (hrun : (execOp a.eval o).run P w = .ok (.value v) w') (h : K (a.put o.dst v) w') : if Region.wanted o (yielded ops a.tmps) = true then Oper.wp P o a w K Q else K (a.put o.dst undef) w := by
  rw [if_pos hgd]
  unfold Oper.wp
  rw [hrun]
  exact h
theorem sq_build (hgd : Region.wanted o (yielded ops a.tmps) = true) (ty : TypeId) {ps : Array (Nat × Operand)} (ho : o.op = .build ty ps) {vs : List (Nat × Value)} {v : Value} (hx : ps.toList.map (fun (i, x) => (i, a.eval x)) = vs) (hrun : (Instr.build ty vs.toArray).run P w = .ok v w) (h : K (a.put o.dst v) w) : if Region.wanted o (yielded ops a.tmps) = true then Oper.wp P o a w K Q else K (a.put o.dst undef) w :=
  sq_val hgd (by unfold execOp; simp only [ho]; rw [show ps.map (fun (i, x) => (i, a.eval x)) = vs.toArray by rw [← hx, ← Array.toList_map]]; simp only [Sem.run_bind, hrun, Result.andThen_ok, Sem.run_pure]) h
theorem sq_slice (hgd : Region.wanted o (yielded ops a.tmps) = true) (ty : TypeId) {x : Operand} (ho : o.op = .buildSlice ty 1 #[(0, x)]) {u v : Value} (hx : a.eval x = u) (hrun : (Instr.buildSlice ty 1 #[(0, u)]).run P w = .ok v w') (h : K (a.put o.dst v) w') : if Region.wanted o (yielded ops a.tmps) = true then Oper.wp P o a w K Q else K (a.put o.dst undef) w :=
  sq_val hgd (by
    have e : (#[(0, x)] : Array (Nat × Operand)).map (fun (i, y) => (i, a.eval y)) = #[(0, u)] := by simp [hx]
    unfold execOp; simp only [ho]; rw [e]; simp only [Sem.run_bind, hrun, Result.andThen_ok, Sem.run_pure]) h
theorem sq_slice0 (hgd : Region.wanted o (yielded ops a.tmps) = true) (ty : TypeId) (ho : o.op = .buildSlice ty 0 #[]) {v : Value} (hrun : (Instr.buildSlice ty 0 #[]).run P w = .ok v w') (h : K (a.put o.dst v) w') : if Region.wanted o (yielded ops a.tmps) = true then Oper.wp P o a w K Q else K (a.put o.dst undef) w :=
  sq_val hgd (by
    have e : (#[] : Array (Nat × Operand)).map (fun (i, y) => (i, a.eval y)) = #[] := by simp
    unfold execOp; simp only [ho]; rw [e]; simp only [Sem.run_bind, hrun, Result.andThen_ok, Sem.run_pure]) h
theorem sq_append (hgd : Region.wanted o (yielded ops a.tmps) = true) {s x : Operand} {t ty : TypeId} (ho : o.op = .call { callee := .builtin .append, args := #[s, x], argTypes := #[t, t] }) (hty : o.type = ty) {u1 u2 v : Value} (hs : a.eval s = u1) (hx : a.eval x = u2) (hrun : (Builtin.append_ #[t, t] ty #[u1, u2]).run P w = .ok v w') (h : K (a.put o.dst v) w') : if Region.wanted o (yielded ops a.tmps) = true then Oper.wp P o a w K Q else K (a.put o.dst undef) w :=
  sq_val hgd (by subst hty; simp [execOp, ho, resolve, invoke, builtin, hs, hx, hrun, Result.andThen]) h
end
theorem build_im0 (w : World) : (Instr.buildSlice 52 0 #[]).run Tryz.prog w = .ok (.slice (some ⟨w.heap.size, 0, none⟩) 0 0) (w.alloc (.cells #[] 57)) := by
  obtain ⟨i0, hi, hz0, hz1, hz2⟩ := info_parts infoI
  simp [Instr.buildSlice, run_underlying Tryz.underlying52, sizeOf, typeInfo, hi, Instr.fill, newRow]
  rw [show (Array.range 0) = #[] from rfl, Array.map_empty]
/-- images copied: 'append([]api.Image{}, l...)' -/
theorem app_copy {w : World} {q : Option Addr} {m c : Nat} {l : List Im} (h : MIn w q m l) (hm : m ≤ 3000000) : ∃ q' c' w', (Builtin.append_ #[52, 52] 52 #[.slice (some ⟨w.heap.size, 0, none⟩) 0 0, .slice q m c]).run Tryz.prog (w.alloc (.cells #[] 57)) = .ok (.slice q' l.length c') w' ∧ IOwn w' w.heap.size (.slice q' l.length c') l ∧ Below w.heap.size w w' := by
  obtain ⟨i0, hi0, hz0, hz1, hz2⟩ := info_parts infoI
  have hb := below_alloc w (.cells #[] 57)
  have own0 : (w.alloc (.cells #[] 57)).ownsRow w.heap.size 57 33 (.slice (some ⟨w.heap.size, 0, none⟩) 0 0) 0 [] := World.ownsRow_made w #[] 0 (Nat.le_refl _) (Nat.zero_le _) rfl
  have h65 : (4000000 : Nat) ≤ maxLen := by decide
  have go : ∀ (ad : Addr), q = some ad → ∃ q' c' w', (Builtin.append_ #[52, 52] 52 #[.slice (some ⟨w.heap.size, 0, none⟩) 0 0, .slice q m c]).run Tryz.prog (w.alloc (.cells #[] 57)) = .ok (.slice q' l.length c') w' ∧ IOwn w' w.heap.size (.slice q' l.length c') l ∧ Below w.heap.size w w' := by
    rintro ad rfl
    obtain ⟨v', w', hrun, hown', hgrow, -⟩ := run_append_own (P := Tryz.prog) (w.alloc (.cells #[] 57)) w.heap.size 52 52 57 i0 _ 33 40 Tryz.underlying52 hi0 hz0 hz1 hz2 rfl (by decide) _ 0 [] own0 ad m c (IC l) (by rw [IC_len h.wf, h.len]) (fun j u hu => by
      by_cases h0 : 0 < m
      · obtain ⟨b', o', e, hr⟩ := (h.later hb).cells h0
        cases e
        rw [Addr.add_mid]
        exact hr j u hu
      · have : l = [] := List.length_eq_zero_iff.1 (by rw [h.len]; omega)
        rw [this] at hu; simp [IC] at hu) (IC_ones l) (by omega) (by omega) (by simp)
    rw [Nat.zero_add, List.nil_append] at hown'
    rw [← h.len] at hown'
    obtain ⟨q', c', rfl, -, -, -⟩ := IOwn.in hown' h.wf
    refine ⟨q', c', w', hrun, hown', ?_⟩
    exact ((Below.refl _ w).alloc (Nat.le_refl _) _).grown hgrow (by simp) fun j ej => by simp only [Value.ownBlock, Option.some.injEq] at ej; omega
  by_cases h0 : 0 < m
  · obtain ⟨b, o, e, -⟩ := h.cells h0
    exact go _ e
  · have m0 : m = 0 := by omega
    have l0 : l = [] := List.length_eq_zero_iff.1 (by rw [h.len, m0])
    cases q with
    | none =>
      refine ⟨some ⟨w.heap.size, 0, none⟩, 0, w.alloc (.cells #[] 57), ?_, ?_, hb⟩
      · subst m0; subst l0
        simp [Builtin.append_, run_underlying Tryz.underlying52, sizeOf, typeInfo, hi0, Builtin.lenOf, Builtin.firstCells, storeCells]
      · subst l0; exact own0
    | some ad => exact go ad rfl

theorem sizeR : (Tryz.prog.info? 34).map (·.size) = some 4 := by kernel_rfl
theorem zeroR : (Tryz.prog.info? 34).bind (·.zero) = some (.agg (gcells 0 0 0 (.slice none 0 0)).toArray) := by kernel_rfl
theorem placesR : placesOf Tryz.prog 34 = some plLg := by kernel_rfl
theorem buildR3 (w : World) (t l f : Int) : (Instr.build 34 #[(0, .int .u64 t), (1, .int .u64 l), (2, .int .u64 f)]).run Tryz.prog w = .ok (.agg (gcells t l f (.slice none 0 0)).toArray) w :=
  run_build w 34 _ _ ((built_of 34 _ _ _ placesR zeroR).trans rfl)
theorem buildR1 (w : World) (l : Int) : (Instr.build 34 #[(1, .int .u64 l)]).run Tryz.prog w = .ok (.agg (gcells 0 l 0 (.slice none 0 0)).toArray) w :=
  run_build w 34 _ _ ((built_of 34 _ _ _ placesR zeroR).trans rfl)
theorem allocR (w : World) : (Instr.alloc 34 true (.tuple #[])).run Tryz.prog w = .ok (.pointer (some ⟨w.heap.size, 0, none⟩)) (w.alloc (.cells (gcells 0 0 0 (.slice none 0 0)).toArray 34)) := by
  simp only [Instr.alloc, Sem.run_bind, zv 34 _ zeroR, Result.andThen_ok]
  simp [newVar, newRow, Value.cells]
theorem store_newR (w : World) (t l f : Int) {v : Value} (hv : v.oneCell' = true) : (Instr.storeAt 34 (.pointer (some ⟨w.heap.size, 0, none⟩)) (.agg (gcells t l f v).toArray)).run Tryz.prog (w.alloc (.cells (gcells 0 0 0 (.slice none 0 0)).toArray 34)) = .ok () (w.alloc (.cells (gcells t l f v).toArray 34)) := by
  rw [(LAt.new 34 w (gcells 0 0 0 (.slice none 0 0))).store (ds := gcells t l f v) sizeR rfl (all_oneCell_toArray (gcells_ones hv t l f)), setRow_alloc]
theorem LAt.loadR {w : World} {g : Nat} {t l f : Int} {v : Value} (h : LAt 34 w g (gcells t l f v)) : (Instr.loadAt 34 (.pointer (some ⟨g, 0, none⟩))).run Tryz.prog w = .ok (.agg (gcells t l f v).toArray) w :=
  run_loadAt_mid w g 0 34 (gcells t l f v) _ (LAt.range h) Tryz.underlying34 rfl sizeR
theorem infoX : (Tryz.prog.info? 80).map (fun i => (i.zero, i.size, i.bytes)) = some (some (.agg #[.int .u64 0, .slice none 0 0]), 2, 32) := by kernel_rfl
theorem zeroX : (Tryz.prog.info? 80).bind (·.zero) = some (.agg #[.int .u64 0, .slice none 0 0]) := by kernel_rfl
theorem placesX : placesOf Tryz.prog 80 = some plT := by kernel_rfl
theorem buildX (w : World) (p : Int) (q : Option Addr) (n m : Nat) : (Instr.build 80 #[(0, .int .u64 p), (1, .slice q n m)]).run Tryz.prog w = .ok (.agg #[.int .u64 p, .slice q n m]) w :=
  run_build w 80 _ _ ((built_of 80 _ _ _ placesX zeroX).trans rfl)
theorem build_rtx (w : World) (p : Int) (q : Option Addr) (n m : Nat) : (Instr.buildSlice 32 1 #[(0, .agg #[.int .u64 p, .slice q n m])]).run Tryz.prog w = .ok (.slice (some ⟨w.heap.size, 0, none⟩) 1 1) (w.alloc (.cells #[.int .u64 p, .slice q n m] 80)) := by
  obtain ⟨i0, hi, hz0, hz1, hz2⟩ := info_parts infoX
  refine run_buildSlice w 32 80 1 _ _ i0 _ Tryz.underlying32 hi hz0 (by rw [hz1]; decide) (by rw [hz1]; decide) ?_
  rw [hz1]
  have hA : ∀ A : Array Value, A.size = 2 → Instr.fill (fun i => some (i * 2, 2)) A [(0, .agg #[.int .u64 p, .slice q n m])] = some #[.int .u64 p, .slice q n m] := by
    intro A hA
    have a0 := part_fill 0 [.int .u64 p, .slice q n m] A.toList (by simp; omega)
    simp only [Instr.fill, Value.cells, List.size_toArray, Nat.zero_mul]
    rw [if_neg (by simp [hA])]
    have a0' : (#[Value.int .u64 p, .slice q n m]).zipIdx.foldl (fun cs x => match x with | (c, j) => cs.setIfInBounds (0 + j) c) A = ((A.toList.take 0 ++ [Value.int .u64 p, Value.slice q n m] ++ A.toList.drop (0 + 2))).toArray := a0
    rw [a0', List.drop_eq_nil_of_le (by simp [hA])]
    simp
  exact hA _ (by simp)
/-- a transaction more onto a row of the document's -/
theorem XOwn.app {V : World} {B Bo : Nat} {t l f : Int} {v : Value} {txs : List TX} {vs : List Value} (h : XOwn 80 V B v txs vs) (hlg : LAt 34 V Bo (gcells t l f v)) (hB : B ≤ V.heap.size) (hl : txs.length ≤ 3000000) {p : Int} {q : Option Addr} {k m : Nat} {ims : List Im} (hp : u64 p) (hw : ImsWf ims) (him : IOwn V B (.slice q k m) ims) :
    ∃ q' c' V4, (Builtin.append_ #[32, 32] 32 #[v, .slice (some ⟨V.heap.size, 0, none⟩) 1 1]).run Tryz.prog (V.alloc (.cells #[.int .u64 p, .slice q k m] 80)) = .ok (.slice q' (txs.length + 1) c') V4 ∧ LAt 34 V4 Bo (gcells t l f v) ∧ (∀ {g ty cs}, ty ≠ 80 → LAt ty V g cs → LAt ty V4 g cs) ∧ XOwn 80 (V4.setCell ⟨Bo, 3, none⟩ (.slice q' (txs.length + 1) c')) B (.slice q' (txs.length + 1) c') (txs ++ [⟨p, ims⟩]) (vs ++ [.slice q k m]) ∧ Below B V V4 ∧ (V.alloc (.cells #[.int .u64 p, .slice q k m] 80)).grownBy V4 v.ownBlock := by
  obtain ⟨i0, hi0, hz0, hz1, hz2⟩ := info_parts infoX
  have h65 : (4000000 : Nat) ≤ maxLen := by decide
  obtain ⟨v', V4, hrun, hown', hgrow, -⟩ := run_append_own (P := Tryz.prog) (V.alloc (.cells #[.int .u64 p, .slice q k m] 80)) B 32 32 80 i0 _ 2 32 Tryz.underlying32 hi0 hz0 hz1 hz2 rfl (by decide) v txs.length _ (h.row.alloc _) ⟨V.heap.size, 0, none⟩ 1 1 [.int .u64 p, .slice q k m] rfl (fun j u hu => by
    rw [Addr.add_mid, Nat.zero_add]; exact (LAt.cell (LAt.new 80 V [.int .u64 p, .slice q k m]) j).trans hu) (fun u hu => by
    simp only [List.mem_cons, List.not_mem_nil, or_false] at hu
    rcases hu with rfl | rfl <;> rfl) (by omega) (by omega) (by simp; omega)
  obtain ⟨g', c', rfl⟩ := ownsRow_succ hown'
  have hlg4 : LAt 34 V4 Bo (gcells t l f v) := lat_grown hlg (by decide) h.row hgrow
  have x4 : ∀ (j : Nat) (y : TX) (u : Value), txs[j]? = some y → vs[j]? = some u → IOwn V4 B u y.ims := fun j y u a b =>
    ((h.each j y u a b).alloc _).kept hgrow (own_ne (h.each j y u a b) h.row (by decide))
  have rowo : ∀ {C ty sz n u xs}, ty ≠ 34 → V4.ownsRow C ty sz u n xs → (V4.setCell ⟨Bo, 3, none⟩ (.slice (some ⟨g', 0, none⟩) (txs.length + 1) c')).ownsRow C ty sz u n xs := by
    intro C ty sz n u xs h1 hr
    refine ⟨hr.1, ?_⟩
    rcases hr.2 with hr | ⟨g, cap, cur, e1, e2, e3, e4⟩
    · exact .inl hr
    · have n1 : g ≠ Bo := fun e => by subst e; have := e3.symm.trans hlg4; simp only [Option.some.injEq, Obj.cells.injEq] at this; exact h1 this.2.1
      exact .inr ⟨g, cap, cur, e1, e2, (heap_setCell_other _ ⟨Bo, 3, none⟩ g _ n1).trans e3, e4⟩
  refine ⟨_, c', V4, hrun, hlg4, fun hne hb => lat_grown hb hne h.row hgrow, ?_, ?_, hgrow⟩
  · refine ⟨by rw [List.length_append, List.length_append, h.len]; rfl, ?_, fun j y u a b => ?_, h.wf.snoc ⟨hp, hw⟩⟩
    · rw [List.map_append, List.zip_append (by rw [List.length_map, h.len]), List.length_append]
      show World.ownsRow _ _ _ _ _ _ (TC ((txs.map (·.p)).zip vs ++ [(p, .slice q k m)]))
      rw [TC_snoc]
      exact rowo (by decide) hown'
    · by_cases cj : j < txs.length
      · rw [List.getElem?_append_left cj] at a
        rw [List.getElem?_append_left (by rw [h.len]; exact cj)] at b
        exact rowo (by decide) (x4 j y u a b)
      · have hj : j = txs.length := by
          have := (List.getElem?_eq_some_iff.1 a).1
          simp only [List.length_append, List.length_singleton] at this
          omega
        subst hj
        rw [List.getElem?_append_right (Nat.le_refl _), Nat.sub_self] at a
        rw [← h.len, List.getElem?_append_right (Nat.le_refl _), Nat.sub_self] at b
        cases a; cases b
        exact rowo (by decide) ((him.alloc _).kept hgrow (own_ne him h.row (by decide)))
  · exact ((Below.refl B V).alloc hB _).grown hgrow (by simp; omega) fun j ej => (h.row.lt j ej).1
theorem results_lat1 {fn : Func} {p : Tmp} {ty : TypeId} (h : fn.results = #[.cell p ty]) (tmps : Array Value) (w : World) (g : Nat) (t : TypeId) (cs : List Value) (d : TypeDesc)
    (hp : tmps.getD p undef = .pointer (some ⟨g, 0, none⟩)) (hg : LAt t w g cs) (hu : Tryz.prog.underlying ty = some d) (hd : d.isRow = true) (hi : (Tryz.prog.info? ty).map (·.size) = some cs.length) :
    (results fn tmps).run Tryz.prog w = .ok (.agg cs.toArray) w := results_cell1 h tmps w g t cs d hp hg hu hd hi
end Go.Proofs.YtefnkjajjidfaaaGreatDoor
namespace Go.Proofs.YtefnkjajjidfaaaGreatDoor
open Go.RowKit

set_option maxHeartbeats 4000000 in
set_option maxRecDepth 100000 in
theorem plain_any (t l f : Int) (p : Option Addr) (n c : Nat) (txs : List TX) (w : World) (h : XIn w p n txs) (hwf : TxsWf txs) (hn : n ≤ 100000) (hm : ∀ x ∈ txs, x.ims.length ≤ 100000) :
    Calls Tryz.prog 10 #[.agg (gcells t l f (.slice p n c)).toArray] w fun e w' => ∃ q d vs, e = .returned (.agg (gcells t l f (.slice q n d)).toArray) ∧ XOwn 80 w' w.heap.size (.slice q n d) txs vs ∧ Below w.heap.size w w' := by
  obtain ⟨wa, hwa⟩ : ∃ y, y = w.alloc (.cells (gcells t l f (.slice p n c)).toArray 39) := ⟨_, rfl⟩
  obtain ⟨wb, hwb⟩ : ∃ y, y = wa.alloc (.cells (gcells 0 0 0 (.slice none 0 0)).toArray 34) := ⟨_, rfl⟩
  obtain ⟨wc, hwc⟩ : ∃ y, y = wb.alloc (.cells (gcells t l f (.slice none 0 0)).toArray 34) := ⟨_, rfl⟩
  have ewa := hwa.symm
  have sa : wa.heap.size = w.heap.size + 1 := by rw [hwa]; simp
  have sb : wb.heap.size = w.heap.size + 1 + 1 := by rw [hwb, ← sa]; simp
  have A1 : Hid (_) := allocR wa
  rw [← hwb, sa] at A1
  have U1 : Hid (_) := buildR3 wb t l f
  have A2 : Hid (_) := allocR wb
  have T2 : Hid (_) := store_newR wb t l f (v := .slice none 0 0) rfl
  rw [← hwc, sb] at T2
  rw [sb] at A2
  have bwa : Below w.heap.size w wa := by rw [hwa]; exact below_alloc w _
  have bab : Below wa.heap.size wa wb := by rw [hwb]; exact below_alloc wa _
  have bbc : Below wb.heap.size wb wc := by rw [hwc]; exact below_alloc wb _
  have LA : LAt 39 wb w.heap.size (gcells t l f (.slice p n c)) := by
    refine LAt.later ?_ bab
    rw [hwa]; exact LAt.new 39 w _
  have LAc := LAt.later LA bbc
  have LZ : Hid (LAt 34 wc (w.heap.size + 1) (gcells 0 0 0 (.slice none 0 0))) := by
    refine LAt.later ?_ bbc
    rw [hwb, ← sa]; exact LAt.new 34 wa _
  have LO : Hid (LAt 34 wc (w.heap.size + 1 + 1) (gcells t l f (.slice none 0 0))) := by rw [hwc, ← sb]; exact LAt.new 34 wb _
  have B0 : Hid (Below w.heap.size w wc) := below_then (below_then bwa bab) bbc
  have a0 : wb.cell? ⟨w.heap.size, 0, none⟩ = some (.int .u64 t) := LAt.cell LA 0
  have a1 : wb.cell? ⟨w.heap.size, 1, none⟩ = some (.int .u64 l) := LAt.cell LA 1
  have a2 : wb.cell? ⟨w.heap.size, 2, none⟩ = some (.int .u64 f) := LAt.cell LA 2
  have a3 : wc.cell? ⟨w.heap.size, 3, none⟩ = some (.slice p n c) := LAt.cell LAc 3
  have HX : Hid (XIn w p n txs) := h
  have HW : Hid (TxsWf txs) := hwf
  have HM : Hid (∀ x ∈ txs, x.ims.length ≤ 100000) := hm
  have hlen := h.len
  clear hwa hwb hwc bwa bab bbc LA LAc h hwf hm
  go_enter Tryz.func10, Tryz.ntmps10
  go_wp2_with ((with_reducible refine at_ops ?_); (first | (refine wpList_alloc_is (by rfl) 34 rfl A1.out ?_) | (refine wpList_build_is (vs := [(0, .int .u64 t), (1, .int .u64 l), (2, .int .u64 f)]) (by rfl) 34 rfl (by rfl) U1.out ?_) | (refine wpList_alloc_is (by rfl) 34 rfl A2.out ?_) | (refine wpList_store_is (by rfl) 34 rfl rfl rfl T2.out ?_)); simp only [Act.put, List.setIfInBounds_toArray, List.set_cons_zero, List.set_cons_succ])
  clear A1 U1 A2 T2 a0 a1 a2 a3 ewa
  go_loopw [16] (fun i wr => ∃ k : Nat, k ≤ n ∧ i = .int .i64 k ∧ Hid (∃ v vs, LAt 34 wr (w.heap.size + 1 + 1) (gcells t l f v) ∧ LAt 34 wr (w.heap.size + 1) (gcells 0 0 0 (.slice none 0 0)) ∧ XOwn 80 wr w.heap.size v (txs.take k) vs ∧ Below w.heap.size w wr)) (fun i _ => n - (intOf i).toNat)
  case atStart => exact ⟨0, Nat.zero_le _, rfl, _, [], LO.out, LZ.out, XOwn.nil _ _ _, B0.out⟩
  case round =>
    obtain ⟨k, hk, rfl, HI⟩ := hrel
    clear LO LZ B0
    obtain ⟨v, vs, i1, i2, i3, i4⟩ := HI.out
    clear HI
    by_cases hlt : k < n
    · obtain ⟨x, hxk⟩ : ∃ x, txs[k]? = some x := ⟨_, List.getElem?_eq_getElem (by omega)⟩
      obtain ⟨b, o, rfl, hcell⟩ := (HX.out.later i4).cells (by omega)
      obtain ⟨q2, c2, e0, e1, mi, -, -⟩ := hcell k x hxk
      have hxm := HM.out x (List.mem_of_getElem? hxk)
      have hxw := HW.out x (List.mem_of_getElem? hxk)
      have L17 : Hid (_) := load_tx e0 e1
      have A5 : Hid (_) := allocT wr
      have T5 : Hid (_) := store_newT wr x.p q2 x.ims.length c2
      obtain ⟨w5, hw5⟩ : ∃ y, y = wr.alloc (.cells #[.int .u64 x.p, .slice q2 x.ims.length c2] 59) := ⟨_, rfl⟩
      have l5 : LAt 59 w5 wr.heap.size [.int .u64 x.p, .slice q2 x.ims.length c2] := by rw [hw5]; exact LAt.new 59 wr _
      rw [← hw5] at T5
      have b5 : Below wr.heap.size wr w5 := by rw [hw5]; exact below_alloc wr _
      obtain ⟨B5, hB5⟩ : ∃ B5, B5 = wr.heap.size := ⟨_, rfl⟩
      rw [← hB5] at l5 T5 A5
      have hB5n : w.heap.size + 1 + 1 < B5 := by rw [hB5]; exact i1.lt
      have M5 : Hid (MIn w5 q2 x.ims.length x.ims ∧ LAt 59 w5 B5 [.int .u64 x.p, .slice q2 x.ims.length c2] ∧ LAt 34 w5 (w.heap.size + 1 + 1) (gcells t l f v) ∧ LAt 34 w5 (w.heap.size + 1) (gcells 0 0 0 (.slice none 0 0)) ∧ XOwn 80 w5 w.heap.size v (txs.take k) vs ∧ Below w.heap.size w w5) := ⟨mi.later b5, l5, LAt.later i1 b5, LAt.later i2 b5, i3.later b5, below_then i4 b5⟩
      have HT : Hid (txs.take (k + 1) = txs.take k ++ [x]) := by show _ = _; rw [List.take_add_one, hxk]; rfl
      have hlk : (txs.take k).length = k := by rw [List.length_take]; omega
      clear hcell e0 e1 mi hw5 l5 b5 i1 i2 i3 i4 hB5
      go_wp2_with ((with_reducible refine at_ops ?_); (first | (refine wpList_load_is (by rfl) 59 rfl rfl L17.out ?_) | (refine wpList_alloc_is (by rfl) 59 rfl A5.out ?_) | (refine wpList_store_is (by rfl) 59 rfl rfl rfl T5.out ?_)); simp only [Act.put, List.setIfInBounds_toArray, List.set_cons_zero, List.set_cons_succ])
      clear L17 A5 T5
      have DD : Below w5.heap.size w5 w5.drew := below_drawn 1
      refine wp_region_noPanic ?_
      refine wp_region_last 12 (fun W => W.cell? ⟨w.heap.size + 1 + 1, 3, none⟩ = some v ∧ W.cell? ⟨B5, 0, none⟩ = some (.int .u64 x.p) ∧ W.cell? ⟨B5, 1, none⟩ = some (.slice q2 x.ims.length c2)) (by kernel_rfl) ?_
      have MD : Hid (_) := (⟨M5.out.1.later DD, LAt.later M5.out.2.1 DD, LAt.later M5.out.2.2.1 DD, LAt.later M5.out.2.2.2.1 DD, M5.out.2.2.2.2.1.later DD, below_then M5.out.2.2.2.2.2 DD⟩ : MIn w5.drew q2 x.ims.length x.ims ∧ LAt 59 w5.drew B5 [.int .u64 x.p, .slice q2 x.ims.length c2] ∧ LAt 34 w5.drew (w.heap.size + 1 + 1) (gcells t l f v) ∧ LAt 34 w5.drew (w.heap.size + 1) (gcells 0 0 0 (.slice none 0 0)) ∧ XOwn 80 w5.drew w.heap.size v (txs.take k) vs ∧ Below w.heap.size w w5.drew)
      clear M5 DD
      generalize w5.drew = wd at *
      have HS : Hid (∀ W, Below wd.heap.size wd W → W.cell? ⟨w.heap.size + 1 + 1, 3, none⟩ = some v ∧ W.cell? ⟨B5, 0, none⟩ = some (.int .u64 x.p) ∧ W.cell? ⟨B5, 1, none⟩ = some (.slice q2 x.ims.length c2)) := fun W hW =>
        ⟨LAt.cell (LAt.later MD.out.2.2.1 hW) 3, LAt.cell (LAt.later MD.out.2.1 hW) 0, LAt.cell (LAt.later MD.out.2.1 hW) 1⟩
      have hHeld := HS.out wd (Below.refl _ _)
      obtain ⟨q3, c3, x2, hrun1, own2, bx2⟩ := app_copy (c := c2) MD.out.1 (by omega)
      have AP1 : Hid (_) := hrun1
      have BX2 : Hid (Below wd.heap.size wd x2) := bx2
      have hds := MD.out.2.2.2.2.2.size
      obtain ⟨q4, c4, V4, hrun2, lg4, oth4, xo4, bl4, -⟩ := XOwn.app (MD.out.2.2.2.2.1.later bx2) (LAt.later MD.out.2.2.1 bx2) (by have := bx2.size; omega) (by omega) hxw.p hxw.ims (own_at own2 (fun g hg => Nat.le_trans hds (own2.lt g hg).1) rfl)
      rw [hlk] at hrun2 xo4
      have AP2 : Hid (_) := hrun2
      have HS4 : Hid (V4.cell? ⟨w.heap.size + 1 + 1, 3, none⟩ = some v ∧ V4.cell? ⟨B5, 0, none⟩ = some (.int .u64 x.p) ∧ V4.cell? ⟨B5, 1, none⟩ = some (.slice q2 x.ims.length c2)) :=
        ⟨LAt.cell lg4 3, LAt.cell (oth4 (by decide) (LAt.later MD.out.2.1 bx2)) 0, LAt.cell (oth4 (by decide) (LAt.later MD.out.2.1 bx2)) 1⟩
      have zc4 : Hid (V4.cell? ⟨w.heap.size + 1 + 1, 3, none⟩ = some v ∧ V4.frozen? ⟨w.heap.size + 1 + 1, 3, none⟩ = false) := ⟨LAt.cell lg4 3, LAt.free lg4 3⟩
      have F5 : Hid (∃ v vs, LAt 34 (V4.setCell ⟨w.heap.size + 1 + 1, 3, none⟩ (.slice q4 (k + 1) c4)) (w.heap.size + 1 + 1) (gcells t l f v) ∧ LAt 34 (V4.setCell ⟨w.heap.size + 1 + 1, 3, none⟩ (.slice q4 (k + 1) c4)) (w.heap.size + 1) (gcells 0 0 0 (.slice none 0 0)) ∧ XOwn 80 (V4.setCell ⟨w.heap.size + 1 + 1, 3, none⟩ (.slice q4 (k + 1) c4)) w.heap.size v (txs.take (k + 1)) vs ∧ Below w.heap.size w (V4.setCell ⟨w.heap.size + 1 + 1, 3, none⟩ (.slice q4 (k + 1) c4))) := by
        refine ⟨.slice q4 (k + 1) c4, vs ++ [.slice q3 x.ims.length c3], LAt.set lg4 3 _, LAt.setO (oth4 (by decide) (LAt.later MD.out.2.2.2.1 bx2)) 3 _ (by omega), ?_, ?_⟩
        · rw [HT.out]; exact xo4
        · exact ((below_then MD.out.2.2.2.2.2 bx2).trans bl4).setCell (p := ⟨w.heap.size + 1 + 1, 3, none⟩) (by show w.heap.size ≤ w.heap.size + 1 + 1; omega) _
      have hv1 : ∃ qv cv, v = .slice qv k cv := by obtain ⟨qv, cv, e, -⟩ := XOwn.in MD.out.2.2.2.2.1; rw [hlk] at e; exact ⟨qv, cv, e⟩
      obtain ⟨qv, cv, rfl⟩ := hv1
      clear hrun1 own2 bx2 hrun2 lg4 oth4 xo4 bl4 MD
      refine wpAnyL_take (i := 0) (v := ?v0) (by simp; rfl) (by kernel_rfl) (by kernel_rfl) (by kernel_rfl) (by kernel_rfl) (fun _ _ _ h => h) (Or.inl ⟨by rfl, ?y0⟩) hHeld ?r0
      case y0 => intro w hSw; clear hSw; go_simp; with_reducible rfl
      simp only [Act.put, List.setIfInBounds_toArray, List.set_cons_zero, List.set_cons_succ]
      refine wpAnyL_take (i := 1) (v := ?v1) (by simp; rfl) (by kernel_rfl) (by kernel_rfl) (by kernel_rfl) (by kernel_rfl) (fun _ _ _ h => h) (Or.inl ⟨by rfl, ?y1⟩) hHeld ?r1
      case y1 => intro w hSw; obtain ⟨z1, z2, z3⟩ := hSw; go_simp; with_reducible rfl
      simp only [Act.put, List.setIfInBounds_toArray, List.set_cons_zero, List.set_cons_succ]
      refine wpAnyL_take (i := 2) (v := ?v2) (by simp; rfl) (by kernel_rfl) (by kernel_rfl) (by kernel_rfl) (by kernel_rfl) (fun _ _ _ h => h) (Or.inl ⟨by rfl, ?y2⟩) hHeld ?r2
      case y2 => intro w hSw; clear hSw; go_simp; with_reducible rfl
      simp only [Act.put, List.setIfInBounds_toArray, List.set_cons_zero, List.set_cons_succ]
      refine wpAnyL_take (i := 3) (v := ?v3) (by simp; rfl) (by kernel_rfl) (by kernel_rfl) (by kernel_rfl) (by kernel_rfl) (fun _ _ _ h => h) (Or.inl ⟨by rfl, ?y3⟩) hHeld ?r3
      case y3 => intro w hSw; obtain ⟨z1, z2, z3⟩ := hSw; go_simp; with_reducible rfl
      simp only [Act.put, List.setIfInBounds_toArray, List.set_cons_zero, List.set_cons_succ]
      refine wpAnyL_take (i := 5) (v := ?v5) (by simp; rfl) (by kernel_rfl) (by kernel_rfl) (by kernel_rfl) (by kernel_rfl) (fun _ _ _ h => h) (Or.inl ⟨by rfl, ?y5⟩) hHeld ?r5
      case y5 => intro w hSw; clear hSw; go_simp; with_reducible rfl
      simp only [Act.put, List.setIfInBounds_toArray, List.set_cons_zero, List.set_cons_succ]
      refine wpAnyL_take (i := 6) (v := ?v6) (by simp; rfl) (by kernel_rfl) (by kernel_rfl) (by kernel_rfl) (by kernel_rfl) (fun _ _ _ h => h) (Or.inl ⟨by rfl, ?y6⟩) hHeld ?r6
      case y6 => intro w hSw; obtain ⟨z1, z2, z3⟩ := hSw; go_simp; with_reducible rfl
      simp only [Act.put, List.setIfInBounds_toArray, List.set_cons_zero, List.set_cons_succ]
      refine wpAnyL_ready (rs := [4]) (by kernel_rfl) (by simp) ?_
      refine AllReadyL.cons (by simp; rfl) (fun Kc hKc => ?_) AllReadyL.nil
      refine sq_slice0 (by rfl) 52 rfl (build_im0 wd) ?_
      refine hKc.out _ _ (fun _ => HS.out _ (below_alloc wd _)) ?_
      clear hKc Kc
      simp only [Act.put, List.setIfInBounds_toArray, List.set_cons_zero, List.set_cons_succ]
      refine wpAnyL_ready (rs := [7]) (by kernel_rfl) (by simp) ?_
      refine AllReadyL.cons (by simp; rfl) (fun Kc hKc => ?_) AllReadyL.nil
      refine sq_append (u1 := .slice (some ⟨wd.heap.size, 0, none⟩) 0 0) (u2 := .slice q2 x.ims.length c2) (by rfl) rfl rfl rfl rfl AP1.out ?_
      refine hKc.out _ _ (fun _ => HS.out _ BX2.out) ?_
      clear hKc Kc
      simp only [Act.put, List.setIfInBounds_toArray, List.set_cons_zero, List.set_cons_succ]
      refine wpAnyL_ready (rs := [8]) (by kernel_rfl) (by simp) ?_
      refine AllReadyL.cons (by simp; rfl) (fun Kc hKc => ?_) AllReadyL.nil
      refine sq_build (vs := [(0, .int .u64 x.p), (1, .slice q3 x.ims.length c3)]) (by rfl) 80 rfl (by rfl) (buildX x2 x.p q3 x.ims.length c3) ?_
      refine hKc.out _ _ (fun _ => HS.out _ BX2.out) ?_
      clear hKc Kc
      simp only [Act.put, List.setIfInBounds_toArray, List.set_cons_zero, List.set_cons_succ]
      refine wpAnyL_ready (rs := [9]) (by kernel_rfl) (by simp) ?_
      refine AllReadyL.cons (by simp; rfl) (fun Kc hKc => ?_) AllReadyL.nil
      refine sq_slice (u := .agg #[.int .u64 x.p, .slice q3 x.ims.length c3]) (by rfl) 32 rfl rfl (build_rtx x2 x.p q3 x.ims.length c3) ?_
      refine hKc.out _ _ (fun _ => HS.out _ (below_then BX2.out (below_alloc x2 _))) ?_
      clear hKc Kc
      simp only [Act.put, List.setIfInBounds_toArray, List.set_cons_zero, List.set_cons_succ]
      refine wpAnyL_ready (rs := [10]) (by kernel_rfl) (by simp) ?_
      refine AllReadyL.cons (by simp; rfl) (fun Kc hKc => ?_) AllReadyL.nil
      refine sq_append (u1 := .slice qv k cv) (u2 := .slice (some ⟨x2.heap.size, 0, none⟩) 1 1) (by rfl) rfl rfl rfl rfl AP2.out ?_
      refine hKc.out _ _ (fun _ => HS4.out) ?_
      clear hKc Kc
      simp only [Act.put, List.setIfInBounds_toArray, List.set_cons_zero, List.set_cons_succ]
      refine wpAnyL_ready (rs := [11]) (by kernel_rfl) (by simp) ?_
      refine AllReadyL.cons (by simp; rfl) (fun Kc hKc => ?_) AllReadyL.nil
      go_simp
      refine hKc.out _ _ (fun _ => HS4.out) ?_
      clear hKc Kc
      refine wpAnyL_ready (rs := [12]) (by kernel_rfl) (by simp) ?_
      refine AllReadyL.cons (by simp; rfl) (fun Kc hKc => ?_) AllReadyL.nil
      have zc := zc4.out.1
      have zf := zc4.out.2
      go_simp
      refine hKc.out _ _ (fun h => absurd rfl h) ?_
      clear hKc Kc zc zf
      refine wpAnyL_done (by kernel_rfl) (NoPanic.normal ?_) _
      clear hHeld HS HS4 AP1 AP2 BX2 zc4
      go_wp2_with fail
      go_roundw
      case rel => exact ⟨k + 1, by omega, by go_num, F5.out⟩
      case measure => simp [intOf]; omega
    · obtain rfl : n = k := by omega
      rw [← hlen, List.take_length] at i3
      obtain ⟨qv, cv, rfl, -⟩ := XOwn.in i3
      have LL : Hid (_) := LAt.loadR i1
      have TL : Hid (_) := LAt.store (ds := gcells t l f (.slice qv txs.length cv)) i2 sizeR rfl (all_oneCell_toArray (gcells_ones rfl t l f))
      have F6 : Hid (LAt 34 (wr.setRow (w.heap.size + 1) (gcells t l f (.slice qv txs.length cv)).toArray) (w.heap.size + 1) (gcells t l f (.slice qv txs.length cv))) := LAt.stored i2 _
      have G6 : Hid (XOwn 80 (wr.setRow (w.heap.size + 1) (gcells t l f (.slice qv txs.length cv)).toArray) w.heap.size (.slice qv txs.length cv) txs vs ∧ Below w.heap.size w (wr.setRow (w.heap.size + 1) (gcells t l f (.slice qv txs.length cv)).toArray)) := by
        refine ⟨i3.kept (grownBy_setRow wr _ _) (.inr (lat_not_row i2 (by decide) i3.row)) fun u hu => ?_, below_setRow i4 (Nat.le_succ _) _⟩
        obtain ⟨j, hj, rfl⟩ := List.getElem_of_mem hu
        have hj' : j < txs.length := by rw [← i3.len]; exact hj
        exact .inr (lat_not_row i2 (by decide) (i3.each j txs[j] vs[j] (List.getElem?_eq_getElem hj') (List.getElem?_eq_getElem hj)))
      clear i1 i2 i3 i4
      go_wp2_with ((with_reducible refine at_ops ?_); (first | (refine wpList_load_is (by rfl) 34 rfl rfl LL.out ?_) | (refine wpList_store_is (by rfl) 34 rfl rfl rfl TL.out ?_)); simp only [Act.put, List.setIfInBounds_toArray, List.set_cons_zero, List.set_cons_succ])
      refine bodyPost_ret (results_lat1 Tryz.results10 _ _ (w.heap.size + 1) 34 _ _ (by rfl) F6.out Tryz.underlying34 rfl sizeR) rfl ?_
      rw [hlen] at G6 ⊢
      exact ⟨qv, cv, vs, rfl, G6.out.1, G6.out.2⟩
end Go.Proofs.YtefnkjajjidfaaaGreatDoor
