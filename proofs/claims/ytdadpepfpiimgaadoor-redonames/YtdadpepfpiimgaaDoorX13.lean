import Derived.Test.YtdadpepfpiimgaaDoorX11
import Derived.Shelf.SlIterI.Nil
import Derived.Shelf.SortM.Plain
import Derived.Shelf.SortM.SortNone
set_option maxHeartbeats 20000000
set_option maxRecDepth 100000
namespace Go.Proofs.YtdadpepfpiimgaaDoor
open Go.RowKit Go.Maps Go.Sort Go.Shelf
def keysA_ren : Go.Shelf.Ren := ⟨fun | 7 => 52 | 10 => 62 | n => n, fun | 23 => 114 | 26 => 3 | 3 => 35 | 28 => 117 | 0 => 0 | 27 => 116 | 33 => 98 | 4 => 4 | n => n, fun | n => n⟩
theorem keysA : Go.Proofs.SlLaysZI.n7 Tryd.prog keysA_ren := {
  mixed := by kernel_rfl
  f7 := ⟨Tryd.f52.name, by decide, Tryd.func52.trans (congrArg some (by kernel_rfl))⟩
  f10 := ⟨Tryd.f62.name, by decide, Tryd.func62.trans (congrArg some (by kernel_rfl))⟩
  t0 := Tryd.underlying0
  a0 := Tryd.isAgg0
  z0 := Tryd.sizeOf0
  v0 := Tryd.zeroValue0
  t4 := Tryd.underlying4
  a4 := Tryd.isAgg4
  z4 := Tryd.sizeOf4
  v4 := Tryd.zeroValue4
  t23 := Tryd.underlying114
  a23 := Tryd.isAgg114
  z23 := Tryd.sizeOf114
  v23 := Tryd.zeroValue114
  t26 := Tryd.underlying3
  a26 := Tryd.isAgg3
  z26 := Tryd.sizeOf3
  v26 := Tryd.zeroValue3
  t27 := Tryd.underlying116
  a27 := Tryd.isAgg116
  z27 := Tryd.sizeOf116
  v27 := Tryd.zeroValue116
  t28 := Tryd.underlying117
  a28 := Tryd.isAgg117
  z28 := Tryd.sizeOf117
  v28 := Tryd.zeroValue117
  t33 := Tryd.underlying98
  a33 := Tryd.isAgg98
  z33 := Tryd.sizeOf98
  v33 := Tryd.zeroValue98 }
def sortedA_ren : Go.Shelf.Ren := ⟨fun | 6 => 51 | 8 => 60 | 9 => 61 | 11 => 70 | 13 => 72 | 12 => 71 | 23 => 87 | 24 => 88 | 14 => 78 | 15 => 79 | 16 => 80 | 17 => 81 | 18 => 82 | 19 => 83 | 20 => 84 | 21 => 85 | 22 => 86 | 25 => 92 | 26 => 93 | 27 => 94 | 28 => 95 | 29 => 96 | 30 => 97 | 31 => 98 | n => n, fun | 26 => 3 | 28 => 117 | 24 => 36 | 0 => 0 | 3 => 3 | 37 => 119 | 48 => 75 | 50 => 33 | 4 => 4 | 40 => 148 | 39 => 147 | 45 => 152 | 5 => 5 | 9 => 9 | 51 => 158 | 55 => 162 | 57 => 164 | 58 => 165 | 33 => 98 | n => n, fun | n => n⟩
theorem sortedA : Go.Proofs.SlLaysZI.n6 Tryd.prog sortedA_ren := {
  mixed := by kernel_rfl
  f6 := ⟨Tryd.f51.name, by decide, Tryd.func51.trans (congrArg some (by kernel_rfl))⟩
  f8 := ⟨Tryd.f60.name, by decide, Tryd.func60.trans (congrArg some (by kernel_rfl))⟩
  f11 := ⟨Tryd.f70.name, by decide, Tryd.func70.trans (congrArg some (by kernel_rfl))⟩
  t0 := Tryd.underlying0
  a0 := Tryd.isAgg0
  z0 := Tryd.sizeOf0
  v0 := Tryd.zeroValue0
  t24 := Tryd.underlying36
  a24 := Tryd.isAgg36
  z24 := Tryd.sizeOf36
  v24 := Tryd.zeroValue36
  t26 := Tryd.underlying3
  a26 := Tryd.isAgg3
  z26 := Tryd.sizeOf3
  v26 := Tryd.zeroValue3
  t28 := Tryd.underlying117
  a28 := Tryd.isAgg117
  z28 := Tryd.sizeOf117
  v28 := Tryd.zeroValue117
  i26 := by kernel_rfl }
def sortA_ren : Go.Shelf.Ren := ⟨fun | 5 => 61 | 8 => 72 | 7 => 71 | 19 => 87 | 20 => 88 | 10 => 78 | 11 => 79 | 12 => 80 | 13 => 81 | 14 => 82 | 15 => 83 | 16 => 84 | 17 => 85 | 18 => 86 | 30 => 92 | 31 => 93 | 32 => 94 | 33 => 95 | 34 => 96 | 35 => 97 | 40 => 98 | n => n, fun | 23 => 36 | 25 => 3 | 3 => 3 | 32 => 119 | 22 => 36 | 0 => 0 | 44 => 75 | 46 => 33 | 4 => 4 | 36 => 148 | 35 => 147 | 41 => 152 | 5 => 5 | 9 => 9 | 53 => 158 | 57 => 162 | 63 => 164 | 64 => 165 | n => n, fun | n => n⟩
theorem sortA : Go.Proofs.SlLaysM.n5 Tryd.prog sortA_ren := {
  mixed := by kernel_rfl
  f5 := ⟨Tryd.f61.name, by decide, Tryd.func61.trans (congrArg some (by kernel_rfl))⟩
  f7 := ⟨Tryd.f71.name, by decide, Tryd.func71.trans (congrArg some (by kernel_rfl))⟩
  f8 := Tryd.func72.trans (congrArg some (by kernel_rfl))
  f10 := ⟨Tryd.f78.name, by decide, Tryd.func78.trans (congrArg some (by kernel_rfl))⟩
  f11 := ⟨Tryd.f79.name, by decide, Tryd.func79.trans (congrArg some (by kernel_rfl))⟩
  f12 := ⟨Tryd.f80.name, by decide, Tryd.func80.trans (congrArg some (by kernel_rfl))⟩
  f13 := ⟨Tryd.f81.name, by decide, Tryd.func81.trans (congrArg some (by kernel_rfl))⟩
  f14 := ⟨Tryd.f82.name, by decide, Tryd.func82.trans (congrArg some (by kernel_rfl))⟩
  f15 := ⟨Tryd.f83.name, by decide, Tryd.func83.trans (congrArg some (by kernel_rfl))⟩
  f16 := ⟨Tryd.f84.name, by decide, Tryd.func84.trans (congrArg some (by kernel_rfl))⟩
  f17 := ⟨Tryd.f85.name, by decide, Tryd.func85.trans (congrArg some (by kernel_rfl))⟩
  f18 := ⟨Tryd.f86.name, by decide, Tryd.func86.trans (congrArg some (by kernel_rfl))⟩
  f19 := Tryd.func87.trans (congrArg some (by kernel_rfl))
  f20 := Tryd.func88.trans (congrArg some (by kernel_rfl))
  f30 := ⟨Tryd.f92.name, by decide, Tryd.func92.trans (congrArg some (by kernel_rfl))⟩
  f31 := Tryd.func93.trans (congrArg some (by kernel_rfl))
  f32 := Tryd.func94.trans (congrArg some (by kernel_rfl))
  f33 := ⟨Tryd.f95.name, by decide, Tryd.func95.trans (congrArg some (by kernel_rfl))⟩
  f34 := ⟨Tryd.f96.name, by decide, Tryd.func96.trans (congrArg some (by kernel_rfl))⟩
  f35 := ⟨Tryd.f97.name, by decide, Tryd.func97.trans (congrArg some (by kernel_rfl))⟩
  f40 := ⟨Tryd.f98.name, by decide, Tryd.func98.trans (congrArg some (by kernel_rfl))⟩
  t0 := Tryd.underlying0
  a0 := Tryd.isAgg0
  z0 := Tryd.sizeOf0
  v0 := Tryd.zeroValue0
  t3 := Tryd.underlying3
  a3 := Tryd.isAgg3
  z3 := Tryd.sizeOf3
  v3 := Tryd.zeroValue3
  t4 := Tryd.underlying4
  a4 := Tryd.isAgg4
  z4 := Tryd.sizeOf4
  v4 := Tryd.zeroValue4
  t5 := Tryd.underlying5
  a5 := Tryd.isAgg5
  z5 := Tryd.sizeOf5
  v5 := Tryd.zeroValue5
  t9 := Tryd.underlying9
  a9 := Tryd.isAgg9
  z9 := Tryd.sizeOf9
  v9 := Tryd.zeroValue9
  t22 := Tryd.underlying36
  a22 := Tryd.isAgg36
  z22 := Tryd.sizeOf36
  v22 := Tryd.zeroValue36
  t23 := Tryd.underlying36
  a23 := Tryd.isAgg36
  z23 := Tryd.sizeOf36
  v23 := Tryd.zeroValue36
  t25 := Tryd.underlying3
  a25 := Tryd.isAgg3
  z25 := Tryd.sizeOf3
  v25 := Tryd.zeroValue3
  t32 := Tryd.underlying119
  a32 := Tryd.isAgg119
  z32 := Tryd.sizeOf119
  v32 := Tryd.zeroValue119
  t35 := Tryd.underlying147
  a35 := Tryd.isAgg147
  z35 := Tryd.sizeOf147
  v35 := Tryd.zeroValue147
  t36 := Tryd.underlying148
  a36 := Tryd.isAgg148
  z36 := Tryd.sizeOf148
  v36 := Tryd.zeroValue148
  t41 := Tryd.underlying152
  a41 := Tryd.isAgg152
  z41 := Tryd.sizeOf152
  v41 := Tryd.zeroValue152
  t44 := Tryd.underlying75
  a44 := Tryd.isAgg75
  z44 := Tryd.sizeOf75
  v44 := Tryd.zeroValue75
  t46 := Tryd.underlying33
  a46 := Tryd.isAgg33
  z46 := Tryd.sizeOf33
  v46 := Tryd.zeroValue33
  t53 := Tryd.underlying158
  a53 := Tryd.isAgg158
  z53 := Tryd.sizeOf158
  v53 := Tryd.zeroValue158
  t57 := Tryd.underlying162
  a57 := Tryd.isAgg162
  z57 := Tryd.sizeOf162
  v57 := Tryd.zeroValue162
  t63 := Tryd.underlying164
  a63 := Tryd.isAgg164
  z63 := Tryd.sizeOf164
  v63 := Tryd.zeroValue164
  t64 := Tryd.underlying165
  a64 := Tryd.isAgg165
  z64 := Tryd.sizeOf165
  v64 := Tryd.zeroValue165 }
theorem sortsA (m : Nat) : AnyZI.SortsIn Tryd.prog sortedA_ren Fence.wide m :=
  ⟨fun blk off cap ss W hH hblk hsz => callsIn_wide.2 (AnyM.slices_Sort_int sortA blk off cap ss W hH hblk hsz), fun p cap W => callsIn_wide.2 (AnyM.slices_Sort_int_none sortA p cap W)⟩
theorem keys_any (mb : Option Nat) (W : World) : Calls Tryd.prog 52 #[.map mb] W fun e w' => e = .returned (.func (.func 62) #[] #[.pointer (some ⟨W.heap.size, 0, none⟩)]) ∧ w' = W.alloc (.cells #[.map mb] 114) :=
  (callsIn_wide (n := 5)).1 (AnyZI.keys_in keysA Fence.wide 5 trivial rfl mb W)
theorem sorted_any {H : Type} (b nn : Nat) (D0 : DataW H) (R : Value → Option (DataW H × List MemPlace)) (w : World) (hown : w.ownsMap Tryd.prog 3 R b nn D0) (hmax : Maps.size D0 ≤ maxLen) (hbytes : Maps.size D0 * 8 ≤ 140737488355328) :
    Calls Tryd.prog 51 #[.func (.func 62) #[] #[.pointer (some ⟨w.heap.size, 0, none⟩)]] (w.alloc (.cells #[.map (some b)] 114)) fun e w' => ∃ (v : Value) (ss : List Int), e = .returned v ∧ ss.Perm (intKeys D0) ∧
      w'.ownsRow w.heap.size 3 1 v ss.length ((ss.mergeSort (fun x y => decide (x ≤ y))).map encZ) ∧ Below w.heap.size w w' := by
  have hbl := hown.lt
  have hseq : SeqGives Fence.wide 2 Tryd.prog 62 #[.pointer (some ⟨w.heap.size, 0, none⟩)] encZ (fun ss => ss.Perm (intKeys D0)) (Maps.size D0) (w.alloc (.cells #[.map (some b)] 114)) :=
    AnyZI.keys_gives (ρ := keysA_ren) { keysA with } Fence.wide _ trivial rfl (by omega) w.heap.size b nn D0 _ (by simp) (by simp) (by
      obtain ⟨es, clock, hb, Ft, hs, hD⟩ := hown
      exact ⟨es, clock, (Below.heap_alloc _ _ b hbl).trans hb, Ft, hs, hD⟩)
  have cS := AnyZI.sorted_in sortedA Fence.wide 5 trivial trivial trivial trivial rfl (by omega) (sortsA _) (enters_of Tryd.func61 (by kernel_rfl) rfl) 62 #[.pointer (some ⟨w.heap.size, 0, none⟩)] trivial (enters_of Tryd.func62 (by kernel_rfl) rfl) _ _ hmax hbytes _ hseq
  change CallsIn _ _ Tryd.prog 51 _ _ _ at cS
  refine (callsIn_wide (n := 5)).1 (cS.mono ?_)
  rintro e w' ⟨v, ss, rfl, hS, hrow, _, hb⟩
  exact ⟨v, ss, rfl, hS, ownsRow_base_a hrow (by simp), ((Below.refl _ w).alloc (Nat.le_refl _) _).trans (hb.mono (by simp))⟩
end Go.Proofs.YtdadpepfpiimgaaDoor
namespace Go.Proofs.YtdadpepfpiimgaaDoor
open Go.RowKit Go.Maps
section
variable {P : Program} {ops : Array Oper} {rest : List Oper} {o : Oper} {a : Act} {w w' : World} {Q : Exit → Act → World → Prop}
theorem wpList_slice_is (hgd : Region.wanted o (yielded ops a.tmps) = true) (ty : TypeId) {x : Operand} (ho : o.op = .buildSlice ty 1 #[(0, x)]) {u v : Value} (hx : a.eval x = u) (hrun : (Instr.buildSlice ty 1 #[(0, u)]).run P w = .ok v w') (h : wpList P ops Q rest (a.put o.dst v) w') : wpList P ops Q (o :: rest) a w :=
  wpList_val hgd (by
    have e : (#[(0, x)] : Array (Nat × Operand)).map (fun (i, y) => (i, a.eval y)) = #[(0, u)] := by simp [hx]
    unfold execOp; simp only [ho]; rw [e]; simp only [Sem.run_bind, hrun, Result.andThen_ok, Sem.run_pure]) h
theorem wpList_append_is (hgd : Region.wanted o (yielded ops a.tmps) = true) {s x : Operand} {t ty : TypeId} (ho : o.op = .call { callee := .builtin .append, args := #[s, x], argTypes := #[t, t] }) (hty : o.type = ty) {u1 u2 v : Value} (hs : a.eval s = u1) (hx : a.eval x = u2) (hrun : (Builtin.append_ #[t, t] ty #[u1, u2]).run P w = .ok v w') (h : wpList P ops Q rest (a.put o.dst v) w') : wpList P ops Q (o :: rest) a w :=
  wpList_val hgd (by subst hty; simp [execOp, ho, resolve, invoke, builtin, hs, hx, hrun, Result.andThen]) h
theorem wpList_lookup_is (hgd : Region.wanted o (yielded ops a.tmps) = true) (ty : TypeId) {m x : Operand} (ho : o.op = .lookup ty m x false) {u1 u2 v : Value} (hm : a.eval m = u1) (hx : a.eval x = u2) (hrun : (Instr.lookup ty u1 u2 false).run P w = .ok v w) (h : wpList P ops Q rest (a.put o.dst v) w) : wpList P ops Q (o :: rest) a w :=
  wpList_val hgd (by unfold execOp; simp only [ho, hm, hx, Sem.run_bind, hrun, Result.andThen_ok, Sem.run_pure]) h
end
abbrev kI (b : Int) : Lit := .int .i64 b
abbrev hV (v : List Int) : DataW Value := .held (.agg (U8 v).toArray)
def mapD (l : List Im) : DataW Value := l.foldl (fun D x => D.put (kI x.b) (hV x.v)) (.map [])
theorem mapD_snoc (l : List Im) (x : Im) : mapD (l ++ [x]) = (mapD l).put (kI x.b) (hV x.v) := by simp [mapD]
theorem snoc_ind {α : Type} {p : List α → Prop} (h0 : p []) (h1 : ∀ l x, p l → p (l ++ [x])) (l : List α) : p l := by
  have : ∀ m : List α, p m.reverse := fun m => by
    induction m with
    | nil => exact h0
    | cons x m ih => rw [List.reverse_cons]; exact h1 _ _ ih
  have e := this l.reverse
  rwa [List.reverse_reverse] at e
theorem mem_ins (x : Lit × DataW Value) (p : Lit × DataW Value) : ∀ l, p ∈ DataW.insert x l ↔ p = x ∨ p ∈ l
  | [] => by simp [DataW.insert]
  | y :: r => by
    unfold DataW.insert
    by_cases h : x.1.before y.1 = true
    · rw [if_pos h]; exact List.mem_cons
    · rw [if_neg h, List.mem_cons, mem_ins x p r, List.mem_cons]
      exact or_left_comm
theorem mapD_es (l : List Im) : ∃ es, mapD l = .map es ∧ ∀ p ∈ es, ∃ y, p.1 = kI y := by
  refine snoc_ind (p := fun l => ∃ es, mapD l = .map es ∧ ∀ p ∈ es, ∃ y, p.1 = kI y) ⟨[], rfl, fun p h => by cases h⟩ (fun l x h => ?_) l
  obtain ⟨es, e, hk⟩ := h
  refine ⟨_, by rw [mapD_snoc, e]; rfl, fun p hp => ?_⟩
  rcases (mem_ins _ _ _).1 hp with rfl | hp
  · exact ⟨x.b, rfl⟩
  · exact hk p (List.mem_filter.1 hp).1
theorem mapD_isMap (l : List Im) : IsMap (mapD l) := by obtain ⟨es, e, _⟩ := mapD_es l; exact ⟨es, e⟩
theorem kI_ne {a b : Int} (h : a ≠ b) : kI a ≠ kI b := fun e => h (by injection e)
theorem mapD_has (b : Int) : ∀ l, Maps.has (mapD l) (kI b) = decide (b ∈ blks l) := by
  refine snoc_ind (by simp [mapD, Maps.has]) fun l x ih => ?_
  rw [mapD_snoc]
  by_cases h : x.b = b
  · rw [← h, Maps.has_put_same (k := kI x.b) (mapD_isMap l) trivial]; simp
  · rw [Maps.has_put_other (kI_ne fun e => h e.symm), ih]
    simp only [blks, List.map_append, List.map_cons, List.map_nil, List.mem_append, List.mem_singleton]
    by_cases hb : b ∈ l.map (·.b)
    · simp [hb]
    · rw [decide_eq_false hb, decide_eq_false]; rintro (k | k)
      · exact hb k
      · exact h k.symm
theorem mapD_at (b : Int) (z : DataW Value) : ∀ l, b ∈ blks l → (mapD l).atKey (kI b) z = hV (lastV l b) := by
  refine snoc_ind (fun h => by cases h) fun l x ih hb => ?_
  rw [mapD_snoc, lastV_snoc]
  by_cases h : x.b = b
  · rw [if_pos h, ← h, Maps.atKey_put_same (k := kI x.b) (mapD_isMap l) trivial]
  · rw [if_neg h, Maps.atKey_put_other (kI_ne fun e => h e.symm)]
    refine ih ?_
    simp only [blks, List.map_append, List.map_cons, List.map_nil, List.mem_append, List.mem_singleton] at hb
    rcases hb with hb | hb
    · exact hb
    · exact absurd hb.symm h
theorem mapD_keys (l : List Im) (b : Int) : b ∈ intKeys (mapD l) ↔ b ∈ blks l := by
  have hh := mapD_has b l
  obtain ⟨es, e, hk⟩ := mapD_es l
  rw [e] at hh ⊢
  rw [Maps.has_eq] at hh
  constructor
  · intro hb
    obtain ⟨p, hp, e2⟩ := List.mem_map.1 (show b ∈ es.map fun p => Go.intOf p.1 from hb)
    obtain ⟨y, hy⟩ := hk p hp
    have : (es.any fun p => p.1.sameKey (kI b)) = true := List.any_eq_true.2 ⟨p, hp, by rw [hy] at e2 ⊢; have : y = b := e2; subst this; exact WideAt.sameKey_self (a := kI y) trivial⟩
    rw [this] at hh
    exact of_decide_eq_true hh.symm
  · intro hb
    rw [decide_eq_true hb] at hh
    obtain ⟨p, hp, e2⟩ := List.any_eq_true.1 hh
    obtain ⟨y, hy⟩ := hk p hp
    refine List.mem_map.2 ⟨p, hp, ?_⟩
    rw [hy] at e2 ⊢
    show y = b
    by_cases c : y = b
    · exact c
    · rw [Maps.sameKey_ne (kI_ne c)] at e2; cases e2
theorem intKeys_nodup {l : List Im} (h : Tidy (mapD l)) : (intKeys (mapD l)).Nodup := by
  obtain ⟨es, e, hk⟩ := mapD_es l
  obtain ⟨es', e', hp⟩ := h
  rw [e] at e' ⊢
  cases e'
  show (es.map fun p => Go.intOf p.1).Pairwise (· ≠ ·)
  refine List.pairwise_map.2 (hp.imp_of_mem fun {p q} hp' hq' hne e => ?_)
  obtain ⟨y, hy⟩ := hk p hp'
  obtain ⟨z, hz⟩ := hk q hq'
  rw [hy, hz] at e hne
  have : y = z := e
  exact hne (by rw [this])
theorem up_of : ∀ {xs : List Int}, xs.Pairwise (fun x y => decide (x ≤ y) = true) → xs.Nodup → xs.Pairwise (· < ·)
  | [], _, _ => List.Pairwise.nil
  | x :: xs, h, hn => List.pairwise_cons.2 ⟨fun y hy => by
      have h1 := of_decide_eq_true ((List.pairwise_cons.1 h).1 y hy)
      have h2 : x ≠ y := fun e => (List.nodup_cons.1 hn).1 (by rw [e]; exact hy)
      omega, up_of (List.pairwise_cons.1 h).2 (List.nodup_cons.1 hn).2⟩
theorem sorted_up {l : List Im} {ss : List Int} (ht : Tidy (mapD l)) (h : ss.Perm (intKeys (mapD l))) : (ss.mergeSort fun x y => decide (x ≤ y)).Pairwise (· < ·) ∧ ∀ b, b ∈ (ss.mergeSort fun x y => decide (x ≤ y)) ↔ b ∈ blks l := by
  have hp := List.mergeSort_perm ss fun x y => decide (x ≤ y)
  have hs : (ss.mergeSort fun x y => decide (x ≤ y)).Pairwise (fun x y => decide (x ≤ y) = true) := List.pairwise_mergeSort (fun a b c h1 h2 => by have := of_decide_eq_true h1; have := of_decide_eq_true h2; exact decide_eq_true (by omega)) (fun a b => by by_cases c : a ≤ b <;> simp <;> omega) ss
  have hn : (ss.mergeSort fun x y => decide (x ≤ y)).Nodup := (hp.trans h).nodup_iff.2 (intKeys_nodup ht)
  refine ⟨up_of hs hn, fun b => ?_⟩
  · rw [(hp.trans h).mem_iff, mapD_keys]
abbrev RV (v : Value) : Option (DataW Value × List MemPlace) := some (.held v, [])
theorem law3 : Keyed Tryd.prog 3 := int_keyed Tryd.underlying3
theorem zeroVal (w : World) : (zeroValue 35).run Tryd.prog w = .ok (.agg (U8 (zs 32)).toArray) w := zv 35 _ zeroV w
theorem look_at {w : World} {B n : Nat} {l : List Im} (h : w.ownsMap Tryd.prog 3 RV B n (mapD l)) {b : Int} (hb : b ∈ blks l) (hw : i64 b) : (Instr.lookup 114 (.map (some B)) (.int .i64 b) false).run Tryd.prog w = .ok (.agg (U8 (lastV l b)).toArray) w := by
  obtain ⟨v, ps, hrun, hv⟩ := h.lookup law3 Tryd.underlying114 (zeroVal w) (zd := .held (.agg (U8 (zs 32)).toArray)) (zp := []) rfl (keyOf_int_mk Tryd.underlying3 (WalkArith.wf_i64 (by unfold i64 at hw; omega)) : keyOf Tryd.prog 3 (.int .i64 b) = some (kI b))
  rw [mapD_at b _ l hb] at hv
  simp only [RV, Option.some.injEq, Prod.mk.injEq, DataW.held.injEq] at hv
  rw [hrun, hv.1]
end Go.Proofs.YtdadpepfpiimgaaDoor
namespace Go.Proofs.YtdadpepfpiimgaaDoor
open Go.RowKit Go.Maps
theorem lastV_wf {l : List Im} (h : ImsWf l) {b : Int} (hb : b ∈ blks l) : (lastV l b).length = 32 ∧ Bytes (lastV l b) ∧ i64 b := by
  induction l with
  | nil => cases hb
  | cons x xs ih =>
    by_cases c : b ∈ blks xs
    · rw [lastV_in c]; exact ih (fun y hy => h y (List.mem_cons.2 (.inr hy))) c
    · have e : b = x.b := (List.mem_cons.1 (show b ∈ x.b :: blks xs from hb)).resolve_right c
      rw [e] at c ⊢
      rw [lastV_new c]
      have := h x (List.mem_cons.2 (.inl rfl))
      exact ⟨this.len, this.byte, this.b⟩
theorem sizeT : (Tryd.prog.info? 113).map (·.size) = some 2 := by kernel_rfl
theorem allocT (w : World) : (Instr.alloc 113 true (.tuple #[])).run Tryd.prog w = .ok (.pointer (some ⟨w.heap.size, 0, none⟩)) (w.alloc (.cells ([.int .u64 0, .slice none 0 0] : List Value).toArray 113)) := by
  simp only [Instr.alloc, Sem.run_bind, zv 113 _ zeroT, Result.andThen_ok]
  simp [newVar, newRow, Value.cells]
theorem store_newT (w : World) (p : Int) (q : Option Addr) (n m : Nat) : (Instr.storeAt 113 (.pointer (some ⟨w.heap.size, 0, none⟩)) (.agg #[.int .u64 p, .slice q n m])).run Tryd.prog (w.alloc (.cells ([.int .u64 0, .slice none 0 0] : List Value).toArray 113)) = .ok () (w.alloc (.cells #[.int .u64 p, .slice q n m] 113)) := by
  have := (LAt.new 113 w [.int .u64 0, .slice none 0 0]).store (ds := [.int .u64 p, .slice q n m]) sizeT rfl (all_oneCell_toArray fun v hv => by
    simp only [List.mem_cons, List.not_mem_nil, or_false] at hv
    rcases hv with rfl | rfl <;> rfl)
  rw [setRow_alloc] at this
  exact this
theorem load_tx {w : World} {b o : Nat} {p : Int} {u : Value} (h0 : w.cell? ⟨b, o, none⟩ = some (.int .u64 p)) (h1 : w.cell? ⟨b, o + 1, none⟩ = some u) : (Instr.loadAt 113 (.pointer (some ⟨b, o, none⟩))).run Tryd.prog w = .ok (.agg #[.int .u64 p, u]) w := by
  refine run_loadAt_mid w b o 113 [.int .u64 p, u] _ (fun j v hv => ?_) Tryd.underlying113 rfl sizeT
  have hj : j < 2 := (List.getElem?_eq_some_iff.1 hv).1
  have : j = 0 ∨ j = 1 := by omega
  rcases this with rfl | rfl
  · exact h0.trans hv
  · exact h1.trans hv
theorem take_flat (l : List TX) {k : Nat} {t : TX} (h : l[k]? = some t) : flat (l.take (k + 1)) = flat (l.take k) ++ t.ims := by
  have hk := (List.getElem?_eq_some_iff.1 h).1
  have e : l.take (k + 1) = l.take k ++ [t] := by
    rw [List.take_add_one, h]; rfl
  rw [e, flat_snoc]
theorem flat_le (l : List TX) (k : Nat) : (flat (l.take k)).length ≤ (flat l).length := by
  have e : flat l = flat (l.take k) ++ flat (l.drop k) := by
    have := List.take_append_drop k l
    simp only [flat]
    rw [← List.flatMap_append, this]
  rw [e, List.length_append]; omega
theorem flat_bd {l : List TX} {k : Nat} {t : TX} (h : l[k]? = some t) (j : Nat) : (flat (l.take k)).length + (t.ims.take j).length ≤ (flat l).length := by
  have h1 := flat_le l (k + 1)
  rw [take_flat l h, List.length_append] at h1
  have h2 : (t.ims.take j).length ≤ t.ims.length := by rw [List.length_take]; omega
  omega
set_option maxHeartbeats 4000000 in
set_option maxRecDepth 100000 in
theorem newest_any (q : Option Addr) (n c : Nat) (txs : List TX) (w : World) (h : XIn w q n txs) (hwf : TxsWf txs) (hn : n ≤ 2000000) (hf : (flat txs).length ≤ 2000000) :
    Calls Tryd.prog 40 #[.slice q n c] w fun e w' => ∃ v, e = .returned v ∧ IOwn w' w.heap.size v (nwS (flat txs)) ∧ Below w.heap.size w w' := by
  have hmm := @run_makeMap Tryd.prog
  have HX : Hid (XIn w q n txs) := h
  have HW : Hid (TxsWf txs) := hwf
  have HF : Hid ((flat txs).length ≤ 2000000) := hf
  have hlen : txs.length = n := h.len
  clear h hwf hf
  go_enter Tryd.func40, Tryd.ntmps40
  go_wp2
  go_loopw [14] (fun i wr => ∃ k : Nat, k ≤ n ∧ i = .int .i64 k ∧ Hid (wr.ownsMap Tryd.prog 3 RV w.heap.size (flat (txs.take k)).length (mapD (flat (txs.take k))) ∧ Below w.heap.size w wr)) (fun i _ => n - (intOf i).toNat)
  case atStart => exact ⟨0, Nat.zero_le _, rfl, World.ownsMap_made _ _ _ _, (Below.refl _ _).alloc (Nat.le_refl _) _⟩
  case round =>
    obtain ⟨k, hk, rfl, HI⟩ := hrel
    by_cases hlt : k < n
    · obtain ⟨t, htk⟩ : ∃ t, txs[k]? = some t := ⟨_, List.getElem?_eq_getElem (by omega)⟩
      have HXr : XIn wr q n txs := HX.out.later HI.out.2
      obtain ⟨g, o, rfl, hcell⟩ := HXr.cells (by omega)
      obtain ⟨q2, c2, e0, e1, mi, m1, m2⟩ := hcell k t htk
      have hm : t.ims.length ≤ 2000000 := by have := flat_bd htk t.ims.length; rw [List.take_length] at this; have := HF.out; omega
      have L17 : Hid (_) := load_tx e0 e1
      have A5 : Hid (_) := allocT wr
      have T5 : Hid (_) := store_newT wr t.p q2 t.ims.length c2
      obtain ⟨w5, hw5⟩ : ∃ y, y = wr.alloc (.cells #[.int .u64 t.p, .slice q2 t.ims.length c2] 113) := ⟨_, rfl⟩
      have l5 : LAt 113 w5 wr.heap.size [.int .u64 t.p, .slice q2 t.ims.length c2] := by rw [hw5]; exact LAt.new 113 wr _
      have c51 : w5.cell? ⟨wr.heap.size, 1, none⟩ = some (.slice q2 t.ims.length c2) := LAt.cell l5 1
      rw [← hw5] at T5
      have HM : Hid (∀ W, Below w.heap.size w W → MIn W q2 t.ims.length t.ims) := by
        intro W hW
        obtain ⟨g', o', e', hcell'⟩ := (HX.out.later hW).cells (by omega)
        obtain ⟨q3, c3, f0, f1, mi3, -, -⟩ := hcell' k t htk
        cases e'
        have f2 := (HX.out.cells (by omega))
        obtain ⟨g4, o4, e4, hc4⟩ := f2
        cases e4
        obtain ⟨q5, c5, k0, k1, -, -, -⟩ := hc4 k t htk
        have a1 : wr.cell? ⟨g, o + k * 2 + 1, none⟩ = some (.slice q5 t.ims.length c5) := (HI.out.2.cell (p := ⟨g, o + k * 2 + 1, none⟩) (World.block_lt_of_cell? w _ k1)).trans k1
        have a2 : W.cell? ⟨g, o + k * 2 + 1, none⟩ = some (.slice q5 t.ims.length c5) := (hW.cell (p := ⟨g, o + k * 2 + 1, none⟩) (World.block_lt_of_cell? w _ k1)).trans k1
        rw [e1] at a1
        rw [f1] at a2
        cases a1; cases a2
        exact mi3
      have I5 : Hid (w5.ownsMap Tryd.prog 3 RV w.heap.size (flat (txs.take k)).length (mapD (flat (txs.take k))) ∧ Below w.heap.size w w5) := by
        rw [hw5]; exact ⟨HI.out.1.alloc _, HI.out.2.alloc HI.out.2.size _⟩
      clear HXr hcell e0 e1 mi hw5 l5 HI
      go_wp2_with ((with_reducible refine at_ops ?_); (first | (refine wpList_load_is (by rfl) 113 rfl rfl L17.out ?_) | (refine wpList_alloc_is (by rfl) 113 rfl A5.out ?_) | (refine wpList_store_is (by rfl) 113 rfl rfl rfl T5.out ?_)); simp only [Act.put, List.setIfInBounds_toArray, List.set_cons_zero, List.set_cons_succ])
      clear L17 A5 T5 c51
      go_loopw [21] (fun i wr => ∃ j : Nat, j ≤ t.ims.length ∧ i = .int .i64 j ∧ Hid (wr.ownsMap Tryd.prog 3 RV w.heap.size ((flat (txs.take k)).length + j) (mapD (flat (txs.take k) ++ t.ims.take j)) ∧ Below w.heap.size w wr)) (fun i _ => t.ims.length - (intOf i).toNat)
      case atStart => exact ⟨0, Nat.zero_le _, rfl, by simpa using I5.out.1, I5.out.2⟩
      case round =>
        obtain ⟨j, hj, rfl, HJ⟩ := hrel
        clear I5
        by_cases hjl : j < t.ims.length
        · obtain ⟨x, hx⟩ : ∃ x, t.ims[j]? = some x := ⟨_, List.getElem?_eq_getElem hjl⟩
          have mi := HM.out _ HJ.out.2
          have hxw := mi.wf x (List.mem_of_getElem? hx)
          obtain ⟨g2, o2, rfl, -⟩ := mi.cells (by omega)
          have L24 : Hid (_) := mi.load hx
          have A7 : Hid (_) := allocI wr
          have T7 : Hid (_) := store_newI wr x hxw.len
          obtain ⟨w7, hw7⟩ : ∃ y, y = wr.alloc (.cells (icells x).toArray 65) := ⟨_, rfl⟩
          have l7 : LAt 65 w7 wr.heap.size (icells x) := by rw [hw7]; exact LAt.new 65 wr _
          have c70 : w7.cell? ⟨wr.heap.size, 0, none⟩ = some (.int .i64 x.b) := LAt.cell l7 0
          have LV : Hid (_) := LAt.loadIv l7 hxw.len
          rw [← hw7] at T7
          have O7 : Hid (w7.ownsMap Tryd.prog 3 RV w.heap.size ((flat (txs.take k)).length + j) (mapD (flat (txs.take k) ++ t.ims.take j)) ∧ Below w.heap.size w w7) := by
            rw [hw7]; exact ⟨HJ.out.1.alloc _, HJ.out.2.alloc HJ.out.2.size _⟩
          have hkey : keyOf Tryd.prog 3 (.int .i64 x.b) = some (kI x.b) := keyOf_int_mk Tryd.underlying3 (WalkArith.wf_i64 (by have := hxw.b; unfold i64 at this; omega))
          have hroom : (flat (txs.take k)).length + j < maxLen := by
            have h1 := flat_bd htk j; rw [List.length_take] at h1; have := HF.out
            have h65 : (3000000 : Nat) ≤ maxLen := by decide
            omega
          have HD : Hid (mapD (flat (txs.take k) ++ t.ims.take (j + 1)) = (mapD (flat (txs.take k) ++ t.ims.take j)).put (kI x.b) (hV x.v)) := by
            show _ = _
            rw [List.take_add_one, hx, ← List.append_assoc]; exact mapD_snoc _ x
          clear mi hw7 l7 HJ
          go_wp2_with ((with_reducible refine at_ops ?_); (first | (refine wpList_load_is (by rfl) 65 rfl rfl L24.out ?_; simp only [Act.put, List.setIfInBounds_toArray, List.set_cons_zero, List.set_cons_succ]) | (refine wpList_load_is (by rfl) 35 rfl rfl LV.out ?_; simp only [Act.put, List.setIfInBounds_toArray, List.set_cons_zero, List.set_cons_succ]) | (refine wpList_alloc_is (by rfl) 65 rfl A7.out ?_; simp only [Act.put, List.setIfInBounds_toArray, List.set_cons_zero, List.set_cons_succ]) | (refine wpList_store_is (by rfl) 65 rfl rfl rfl T7.out ?_; simp only [Act.put]) | (refine wpList_mapUpdate_own _ rfl _ _ _ 114 rfl 3 35 law3 Tryd.underlying114 RV w.heap.size ((flat (txs.take k)).length + j) _ rfl O7.out.1 hroom (.int .i64 x.b) (.agg (U8 x.v).toArray) (kI x.b) rfl rfl hkey (hV x.v) [] rfl ?_; intro w8 hown8 hgrow8; simp only [Act.put])))
          have F8 : Hid (w8.ownsMap Tryd.prog 3 RV w.heap.size ((flat (txs.take k)).length + (j + 1)) (mapD (flat (txs.take k) ++ t.ims.take (j + 1))) ∧ Below w.heap.size w w8) := by
            rw [HD.out]; exact ⟨hown8, O7.out.2.grown hgrow8 O7.out.2.size fun r hr => by cases hr; exact Nat.le_refl _⟩
          clear hown8 hgrow8
          go_wp2_with fail
          go_roundw
          case rel => exact ⟨j + 1, by omega, by go_num, F8.out⟩
          case measure => simp [intOf]; omega
        · obtain rfl : j = t.ims.length := by omega
          have F8 : Hid (wr.ownsMap Tryd.prog 3 RV w.heap.size (flat (txs.take (k + 1))).length (mapD (flat (txs.take (k + 1)))) ∧ Below w.heap.size w wr) := by
            show _ ∧ _
            rw [take_flat txs htk, List.length_append]
            have := HJ.out
            rw [List.take_length] at this
            exact this
          clear HJ
          go_wp2_with fail
          go_roundw
          case rel => exact ⟨k + 1, by omega, by go_num, F8.out⟩
          case measure => simp [intOf]; omega
    · obtain rfl : n = k := by omega
      have HO : Hid (wr.ownsMap Tryd.prog 3 RV w.heap.size (flat txs).length (mapD (flat txs)) ∧ Below w.heap.size w wr) := by
        show _ ∧ _
        have := HI.out
        rw [← hlen, List.take_length] at this
        exact this
      clear HI
      go_wp2_with fail
      refine (keys_any (some w.heap.size) wr).mono ?_
      rintro e w1 ⟨rfl, rfl⟩
      go_wp2_with fail
      have hsz := HO.out.1.size_le
      refine (sorted_any w.heap.size _ (mapD (flat txs)) RV wr HO.out.1 (by have := HF.out; have h65 : (3000000 : Nat) ≤ maxLen := (by decide); omega) (by have := HF.out; omega)).mono ?_
      rintro e w2 ⟨v2, ss, rfl, hS, hrow, hb2⟩
      obtain ⟨up, mem⟩ := sorted_up (HO.out.1.tidy law3) hS
      obtain ⟨Ks, hKs⟩ : ∃ Ks, (ss.mergeSort fun x y => decide (x ≤ y)) = Ks := ⟨_, rfl⟩
      have hl2 : Ks.length = ss.length := by rw [← hKs]; exact List.length_mergeSort ss
      have hle : ss.length ≤ 2000000 := by
        have h1 := hS.length_eq
        have h2 : (intKeys (mapD (flat txs))).length = Maps.size (mapD (flat txs)) := by
          obtain ⟨es, e', -⟩ := mapD_es (flat txs)
          rw [e']; simp [intKeys, Maps.size]
        have := HF.out; omega
      rw [hKs] at up mem hrow
      have HUp : Hid (Ks.Pairwise (· < ·) ∧ ∀ b, b ∈ Ks ↔ b ∈ blks (flat txs)) := ⟨up, mem⟩
      rw [← hl2] at hrow hle
      have HO2 : Hid (w2.ownsMap Tryd.prog 3 RV w.heap.size (flat txs).length (mapD (flat txs)) ∧ Below w.heap.size w w2) := by
        refine ⟨HO.out.1.kept (row := none) ⟨hb2.os, hb2.tape, hb2.output, hb2.size, fun k hk _ => hb2.block k hk⟩ (by simp), HO.out.2.trans (hb2.mono HO.out.2.size)⟩
      have HR2 : Hid (w2.ownsRow wr.heap.size 3 1 v2 Ks.length (Ks.map encZ)) := hrow
      obtain ⟨q2, c2, rfl, hcell2⟩ : ∃ q2 c2, v2 = .slice q2 Ks.length c2 ∧ (0 < Ks.length → ∃ g, q2 = some ⟨g, 0, none⟩) := by
        rcases hrow.2 with ⟨e, e2⟩ | ⟨g, cap, cur, e, -⟩
        · exact ⟨none, 0, by rw [e, e2], fun h => by omega⟩
        · exact ⟨_, cap, e, fun _ => ⟨g, rfl⟩⟩
      obtain ⟨B2, hB2⟩ : ∃ B2, B2 = wr.heap.size := ⟨_, rfl⟩
      rw [← hB2] at HR2
      clear hB2
      clear HO hsz up mem hS hrow hb2 hKs hl2
      obtain ⟨B3, hB3⟩ : ∃ B3, B3 = w2.heap.size := ⟨_, rfl⟩
      have hB30 : w.heap.size ≤ B3 := by rw [hB3]; exact HO2.out.2.size
      go_wp2_with fail
      go_loopw [8, 36] (fun out i wr' => ∃ j : Nat, j ≤ Ks.length ∧ i = .int .i64 j ∧ Hid (IOwn wr' B3 out ((Ks.take j).map fun b => (⟨b, lastV (flat txs) b⟩ : Im)) ∧ wr'.ownsMap Tryd.prog 3 RV w.heap.size (flat txs).length (mapD (flat txs)) ∧ wr'.ownsRow B2 3 1 (.slice q2 Ks.length c2) Ks.length (Ks.map encZ) ∧ Below w.heap.size w wr' ∧ B3 ≤ wr'.heap.size)) (fun _ i _ => Ks.length - (intOf i).toNat)
      case atStart => exact ⟨0, Nat.zero_le _, rfl, World.ownsRow_nil _ _ _ _, HO2.out.1, HR2.out, HO2.out.2, by omega⟩
      case round =>
        obtain ⟨j, hj, rfl, HJ⟩ := hrel
        clear HO2 HR2
        by_cases hjl : j < Ks.length
        · obtain ⟨g2, rfl⟩ := hcell2 (by omega)
          obtain ⟨b, hb⟩ : ∃ b, Ks[j]? = some b := ⟨_, List.getElem?_eq_getElem hjl⟩
          have hbm : b ∈ blks (flat txs) := (HUp.out.2 b).1 (List.mem_of_getElem? hb)
          obtain ⟨lw1, lw2, lw3⟩ := lastV_wf (flat_wf HW.out) hbm
          have ck : wr.cell? ⟨g2, j, none⟩ = some (.int .i64 b) := by
            have := HJ.out.2.2.1.cells (g := g2) rfl j (.int .i64 b) (by rw [List.getElem?_map, hb]; rfl)
            rw [Addr.add_mid, Nat.zero_add] at this; exact this
          have LK : Hid (_) := look_at HJ.out.2.1 hbm lw3
          have UI : Hid (_) := buildI wr b (lastV (flat txs) b) lw1
          have SI : Hid (_) := build_im wr ⟨b, lastV (flat txs) b⟩ lw1
          have hlj : ((Ks.take j).map fun b => (⟨b, lastV (flat txs) b⟩ : Im)).length = j := by rw [List.length_map, List.length_take]; omega
          obtain ⟨i0, hi0, hz0, hz1, hz2⟩ := info_parts infoI
          have h65 : (3000000 : Nat) ≤ maxLen := by decide
          obtain ⟨v', w4, hrun, hown', hgrow, -⟩ := run_append_own (P := Tryd.prog) (wr.alloc (.cells (icells ⟨b, lastV (flat txs) b⟩).toArray 65)) B3 46 46 65 i0 _ 33 40 Tryd.underlying46 hi0 hz0 hz1 hz2 rfl (by decide) u8 _ _ (HJ.out.1.alloc _) ⟨wr.heap.size, 0, none⟩ 1 1 (icells ⟨b, lastV (flat txs) b⟩) (by rw [icells_len lw1]) (fun j u hu => by
            rw [Addr.add_mid, Nat.zero_add, LAt.cell (LAt.new 65 wr (icells ⟨b, lastV (flat txs) b⟩)) j]; exact hu) (icells_ones _) (by omega) (by omega) (by have := HJ.out.2.2.2.2; simp; omega)
          have AP : Hid (_) := hrun
          have F4 : Hid (IOwn w4 B3 v' ((Ks.take (j + 1)).map fun b => (⟨b, lastV (flat txs) b⟩ : Im)) ∧ w4.ownsMap Tryd.prog 3 RV w.heap.size (flat txs).length (mapD (flat txs)) ∧ w4.ownsRow B2 3 1 (.slice (some ⟨g2, 0, none⟩) Ks.length c2) Ks.length (Ks.map encZ) ∧ Below w.heap.size w w4 ∧ B3 ≤ w4.heap.size) := by
            have hr := HJ.out.1
            refine ⟨?_, ?_, ?_, ?_, ?_⟩
            · rw [List.take_add_one, hb]
              show IOwn w4 B3 v' (((Ks.take j) ++ [b]).map _)
              rw [List.map_append, List.map_cons, List.map_nil, IOwn, IC_snoc, List.length_append, List.length_singleton]
              exact hown'
            · refine (HJ.out.2.1.alloc _).kept hgrow fun e => ?_
              have := (hr.lt _ e.symm).1
              rcases hr.2 with ⟨e1, _⟩ | ⟨g5, cap5, cur5, e1, e2, e3, _⟩
              · rw [e1] at e; cases e
              · rw [e1] at e
                simp only [Value.ownBlock, Option.some.injEq] at e
                obtain ⟨es, clk, hm, -⟩ := HJ.out.2.1
                rw [e, e3] at hm; cases hm
            · exact (HJ.out.2.2.1.alloc _).kept hgrow (own_ne HJ.out.2.2.1 hr (by decide))
            · exact (HJ.out.2.2.2.1.alloc HJ.out.2.2.2.1.size _).grown hgrow (by have := HJ.out.2.2.2.1.size; simp; omega) fun r er => Nat.le_trans hB30 (hr.lt r er).1
            · have := hgrow.size; have := HJ.out.2.2.2.2; simp at *; omega
          clear hrun hown' hgrow HJ hlj
          go_wp2_with ((with_reducible refine at_ops ?_); (first | (refine wpList_lookup_is (u1 := .map (some w.heap.size)) (u2 := .int .i64 b) (by rfl) 114 rfl rfl rfl LK.out ?_) | (refine wpList_build_is (vs := [(0, .int .i64 b), (1, .agg (U8 (lastV (flat txs) b)).toArray)]) (by rfl) 65 rfl (by rfl) UI.out ?_) | (refine wpList_slice_is (u := .agg (icells ⟨b, lastV (flat txs) b⟩).toArray) (by rfl) 46 rfl rfl SI.out ?_) | (refine wpList_append_is (u1 := u8) (u2 := .slice (some ⟨wr.heap.size, 0, none⟩) 1 1) (by rfl) rfl rfl rfl rfl AP.out ?_)); simp only [Act.put, List.setIfInBounds_toArray, List.set_cons_zero, List.set_cons_succ])
          go_roundw
          case rel => exact ⟨j + 1, by omega, by go_num, F4.out⟩
          case measure => simp [intOf]; omega
        · obtain rfl : j = Ks.length := by omega
          go_wp2_with fail
          go_ret
          have := HJ.out.1
          rw [List.take_length, nw_eq (flat txs) Ks HUp.out.1 HUp.out.2] at this
          exact ⟨_, rfl, own_at this (fun g hg => Nat.le_trans hB30 (this.lt g hg).1) rfl, HJ.out.2.2.2.1⟩
end Go.Proofs.YtdadpepfpiimgaaDoor
