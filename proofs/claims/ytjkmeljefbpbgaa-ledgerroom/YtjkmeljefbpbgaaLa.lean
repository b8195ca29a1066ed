/-
  Layer 12: how a ledger lies; what only reads it, New.
-/
import Derived.Test.YtjkmeljefbpbgaaRows
import Derived.Test.YtjkmeljefbpbgaaMath
import Derived.WalkKit
import Derived.WalkSpells
import Derived.WalkLawsBesides
import Derived.Maps.OwnSet
import Derived.BigQuiet
import Derived.Deep.RegionHeld3
import Derived.LaidMore
namespace Go.Proofs.Ytjkmeljefbpbgaa
open Go.RowKit


open Go.Maps (Keyed)
abbrev lp (Q : Nat) : Value := .pointer (some ⟨Q, 0, none⟩)
abbrev nilp : Value := .pointer none
theorem key30 : Keyed Try.prog 30 := Maps.int_keyed Try.underlying30
theorem zero3 (w : World) : (zeroValue 3).run Try.prog w = .ok (.int .i64 0) w := by kernel_rfl
/-- a uint64 -/
abbrev U64 (t : Int) : Prop := (Lit.int .u64 t).wf = true
theorem U64.key {t : Int} (h : U64 t) : keyOf Try.prog 30 (.int .u64 t) = some (.int .u64 t) := Maps.keyOf_int_mk Try.underlying30 h
theorem i64_wf {k : Int} (h0 : 0 ≤ k) (h1 : k ≤ 1000) : (Lit.int .i64 k).wf = true := by
  have e1 : IntKind.i64.min = -9223372036854775808 := by decide
  have e2 : IntKind.i64.max = 9223372036854775807 := by decide
  simp only [Lit.wf, e1, e2, Bool.and_eq_true, decide_eq_true_eq]
  omega

theorem below_alloc (w : World) (o : Obj) : Below w.heap.size w (w.alloc o) := (Below.refl _ _).alloc (Nat.le_refl _) o
theorem below_then {a b c : World} (h : Below a.heap.size a b) (k : Below b.heap.size b c) : Below a.heap.size a c := h.trans (k.mono h.size)
theorem below_drawn {B : Nat} {w : World} (nq : Nat) : Below B w (w.drewN nq) := ⟨rfl, rfl, rfl, Nat.le_refl _, fun _ _ => rfl⟩

/-- nothing that lay has turned but what S names -/
structure Kept (S : Nat → Prop) (w w' : World) : Prop where
  os : w'.os = w.os
  tape : w'.tape = w.tape
  output : w'.output = w.output
  size : w.heap.size ≤ w'.heap.size
  block : ∀ b, b < w.heap.size → ¬ S b → w'.heap[b]? = w.heap[b]?
theorem Kept.of_below {w w' : World} (S : Nat → Prop) (h : Below w.heap.size w w') : Kept S w w' := ⟨h.os, h.tape, h.output, h.size, fun b hb _ => h.block b hb⟩
theorem Kept.refl (S : Nat → Prop) (w : World) : Kept S w w := Kept.of_below S (Below.refl _ _)
theorem Kept.trans {S T : Nat → Prop} {a b c : World} (h : Kept S a b) (k : Kept T b c) (hT : ∀ x, x < a.heap.size → T x → S x) : Kept S a c :=
  ⟨k.os.trans h.os, k.tape.trans h.tape, k.output.trans h.output, Nat.le_trans h.size k.size, fun x hx hs => (k.block x (Nat.lt_of_lt_of_le hx h.size) fun t => hs (hT x hx t)).trans (h.block x hx hs)⟩
theorem Kept.wider {S T : Nat → Prop} {a b : World} (h : Kept S a b) (hT : ∀ x, x < a.heap.size → S x → T x) : Kept T a b := ⟨h.os, h.tape, h.output, h.size, fun x hx ht => h.block x hx fun s => ht (hT x hx s)⟩
theorem Kept.setCell {w : World} (b o : Nat) (v : Value) : Kept (· = b) w (w.setCell ⟨b, o, none⟩ v) := ⟨rfl, rfl, rfl, by simp, fun k _ hk => Below.heap_setCell _ _ _ _ hk⟩
/-- of memory from B on nothing is said -/
theorem Kept.into {S : Nat → Prop} {B : Nat} {w0 w w' : World} (h : Kept S w w') (hb : Below B w0 w) (hS : ∀ b, b < B → ¬ S b) (hB : B ≤ w0.heap.size) : Below B w0 w' :=
  ⟨h.os.trans hb.os, h.tape.trans hb.tape, h.output.trans hb.output, Nat.le_trans hb.size h.size, fun b hlt => (h.block b (by have := hb.size; omega) (hS b hlt)).trans (hb.block b hlt)⟩
theorem Kept.below {S : Nat → Prop} {w w' : World} (h : Kept S w w') (hS : ∀ b, b < w.heap.size → ¬ S b) : Below w.heap.size w w' := ⟨h.os, h.tape, h.output, h.size, fun b hb => h.block b hb (hS b hb)⟩
theorem Kept.of_grown {w w' : World} {b : Nat} (h : w.grownBy w' (some b)) : Kept (· = b) w w' := ⟨h.os, h.tape, h.output, h.size, fun x hx hne => h.block x hx fun e => hne (by simpa using e)⟩

/-- block b is a map that reads as L -/
def Mp (w : World) (b n : Nat) (L : List (Int × Int)) : Prop := ∃ D : DataW Unit, w.ownsMap Try.prog 30 (plainElem Try.prog 3) b n D ∧ ∀ t, U64 t → Maps.has D (.int .u64 t) = (look t L).isSome ∧ D.atKey (.int .u64 t) (.lit (.int .i64 0)) = .lit (.int .i64 ((look t L).getD 0))
theorem Mp.typ {w : World} {b n : Nat} {L : List (Int × Int)} (h : Mp w b n L) : ∃ es clock, w.heap[b]? = some (.map es clock) := by
  obtain ⟨D, ⟨es, clock, hb, _⟩, _⟩ := h
  exact ⟨es, clock, hb⟩
theorem Mp.lt {w : World} {b n : Nat} {L : List (Int × Int)} (h : Mp w b n L) : b < w.heap.size := by
  obtain ⟨es, clock, hb⟩ := h.typ
  exact (Array.getElem?_eq_some_iff.1 hb).1
theorem Mp.kept {w w' : World} {b n : Nat} {L : List (Int × Int)} (h : Mp w b n L) (hk : w'.heap[b]? = w.heap[b]?) : Mp w' b n L := by
  obtain ⟨D, ⟨es, clock, hb, r⟩, hD⟩ := h
  exact ⟨D, ⟨es, clock, hk.trans hb, r⟩, hD⟩
theorem Mp.mono {w : World} {b n m : Nat} {L : List (Int × Int)} (h : Mp w b n L) (hm : n ≤ m) : Mp w b m L := by
  obtain ⟨D, ho, hD⟩ := h
  exact ⟨D, ho.mono hm, hD⟩
theorem Mp.made (w : World) : Mp (w.alloc (.map #[] 0)) w.heap.size 0 [] := ⟨_, World.ownsMap_made w _ _ _, fun _ _ => ⟨rfl, rfl⟩⟩
/-- 'v, ok := m[k]' -/
theorem Mp.run_look {w : World} {b n : Nat} {L : List (Int × Int)} (h : Mp w b n L) {t : Int} (ht : U64 t) :
    (Instr.lookup 54 (.map (some b)) (.int .u64 t) true).run Try.prog w = .ok (.tuple #[.int .i64 ((look t L).getD 0), .bool (look t L).isSome]) w := by
  obtain ⟨D, ho, hD⟩ := h
  obtain ⟨v, ps, hrun, hv⟩ := ho.look_ok key30 Try.underlying54 (zero3 w) (plainElem_int Try.underlying3 (by decide)) ht.key
  obtain ⟨a, rfl, ha, _⟩ := plainElem_int_inv Try.underlying3 hv
  rw [(hD t ht).1] at hrun
  have e := congrArg Prod.fst ha
  simp only [(hD t ht).2] at e
  injection e with e
  injection e with _ e
  rw [hrun, e]
/-- 'm[k] = v' -/
theorem Mp.run_put {w : World} {b n : Nat} {L L' : List (Int × Int)} (h : Mp w b n L) (hn : n < 10000) {t v : Int} (ht : U64 t) (hv : (Lit.int .i64 v).wf = true) (hL : ∀ u, look u L' = if u = t then some v else look u L) :
    ∃ w', (Instr.mapUpdate 54 (.map (some b)) (.int .u64 t) (.int .i64 v)).run Try.prog w = .ok () w' ∧ Mp w' b (n + 1) L' ∧ Kept (· = b) w w' := by
  obtain ⟨D, ho, hD⟩ := h
  have hml : 10000 ≤ maxLen := by decide
  obtain ⟨w', hrun, h1, h2⟩ := ho.store key30 Try.underlying54 (by omega) ht.key (plainElem_int Try.underlying3 hv)
  refine ⟨w', hrun, ⟨_, h1, fun u hu => ?_⟩, Kept.of_grown h2.grown⟩
  rw [hL u]
  by_cases e : u = t
  · subst e
    rw [if_pos rfl, Maps.has_put_same ho.isMap (key30.key ht.key), Maps.atKey_put_same ho.isMap (key30.key ht.key)]
    exact ⟨rfl, rfl⟩
  · have hne : (Lit.int .u64 u) ≠ Lit.int .u64 t := fun e2 => e (by injection e2)
    rw [if_neg e, Maps.has_put_other hne, Maps.atKey_put_other hne]
    exact hD u hu
/-- 'delete(m, k)' -/
theorem Mp.run_del {w : World} {b n : Nat} {L L' : List (Int × Int)} (h : Mp w b n L) {t : Int} (ht : U64 t) (hL : ∀ u, look u L' = if u = t then none else look u L) (ty : TypeId) :
    ∃ w', (Builtin.delete_ #[54, 30] ty #[.map (some b), .int .u64 t]).run Try.prog w = .ok (.tuple #[]) w' ∧ Mp w' b n L' ∧ Kept (· = b) w w' := by
  obtain ⟨D, ho, hD⟩ := h
  obtain ⟨w', hrun, h1, h2⟩ := ho.drop key30 Try.underlying54 ht.key ty
  refine ⟨w', hrun, ⟨_, h1, fun u hu => ?_⟩, Kept.of_grown h2.grown⟩
  rw [hL u]
  by_cases e : u = t
  · subst e
    rw [if_pos rfl, Maps.has_del_same, Maps.atKey_del_same]
    exact ⟨rfl, rfl⟩
  · have hne : (Lit.int .u64 u) ≠ Lit.int .u64 t := fun e2 => e (by injection e2)
    rw [if_neg e, Maps.has_del_other hne, Maps.atKey_del_other hne]
    exact hD u hu

/-- how a ledger lies -/
structure LAt (w : World) (Q b n : Nat) (s : Lg) : Prop where
  st : w.heap[Q]? = some (.cells #[.int .i64 s.cap, .int .i64 s.mark, .int .i64 s.used, .map (some b), .int .i64 (total s.L)] 56 (0, 0))
  mp : Mp w b n s.L
section
variable {w w' : World} {Q b n : Nat} {s : Lg}
theorem LAt.lt (h : LAt w Q b n s) : Q < w.heap.size := (Array.getElem?_eq_some_iff.1 h.st).1
theorem LAt.c0 (h : LAt w Q b n s) : w.cell? ⟨Q, 0, none⟩ = some (.int .i64 s.cap) := by rw [cell_of_row _ Q 0 _ 56 (0, 0) h.st]; rfl
theorem LAt.c1 (h : LAt w Q b n s) : w.cell? ⟨Q, 1, none⟩ = some (.int .i64 s.mark) := by rw [cell_of_row _ Q 1 _ 56 (0, 0) h.st]; rfl
theorem LAt.c2 (h : LAt w Q b n s) : w.cell? ⟨Q, 2, none⟩ = some (.int .i64 s.used) := by rw [cell_of_row _ Q 2 _ 56 (0, 0) h.st]; rfl
theorem LAt.c3 (h : LAt w Q b n s) : w.cell? ⟨Q, 3, none⟩ = some (.map (some b)) := by rw [cell_of_row _ Q 3 _ 56 (0, 0) h.st]; rfl
theorem LAt.c4 (h : LAt w Q b n s) : w.cell? ⟨Q, 4, none⟩ = some (.int .i64 (total s.L)) := by rw [cell_of_row _ Q 4 _ 56 (0, 0) h.st]; rfl
theorem LAt.free (h : LAt w Q b n s) (o : Nat) : w.frozen? ⟨Q, o, none⟩ = false := by simp [World.frozen?, h.st]
theorem LAt.ne (h : LAt w Q b n s) : b ≠ Q := fun e => by
  obtain ⟨es, clock, hb⟩ := h.mp.typ
  rw [e, h.st] at hb
  cases hb
theorem LAt.kept (h : LAt w Q b n s) (h1 : w'.heap[Q]? = w.heap[Q]?) (h2 : w'.heap[b]? = w.heap[b]?) : LAt w' Q b n s := ⟨h1.trans h.st, h.mp.kept h2⟩
theorem LAt.later (h : LAt w Q b n s) (hb : Below w.heap.size w w') : LAt w' Q b n s := h.kept (hb.block Q h.lt) (hb.block b h.mp.lt)
theorem LAt.drawn (h : LAt w Q b n s) (nq : Nat) : LAt (w.drewN nq) Q b n s := h.later (below_drawn nq)
theorem LAt.mono {m : Nat} (h : LAt w Q b n s) (hm : n ≤ m) : LAt w Q b m s := ⟨h.st, h.mp.mono hm⟩

set_option maxHeartbeats 1000000 in
set_option maxRecDepth 100000 in
theorem used_at (h : LAt w Q b n s) : Calls Try.prog 8 #[lp Q] w fun e w' => e = .returned (.int .i64 s.used) ∧ w' = w := by
  have c2 := h.c2
  clear h
  go_enter Try.func8, Try.ntmps8
  go_wp2
  go_ret
  exact ⟨rfl, rfl⟩
set_option maxHeartbeats 1000000 in
set_option maxRecDepth 100000 in
theorem used_nil (w : World) : Calls Try.prog 8 #[nilp] w fun e w' => e = .returned (.int .i64 0) ∧ w' = w := by
  go_enter Try.func8, Try.ntmps8
  go_wp2
  go_ret
  exact ⟨rfl, rfl⟩
set_option maxHeartbeats 1000000 in
set_option maxRecDepth 100000 in
theorem reserved_at (h : LAt w Q b n s) : Calls Try.prog 9 #[lp Q] w fun e w' => e = .returned (.int .i64 (total s.L)) ∧ w' = w := by
  have c4 := h.c4
  clear h
  go_enter Try.func9, Try.ntmps9
  go_wp2
  go_ret
  exact ⟨rfl, rfl⟩
set_option maxHeartbeats 1000000 in
set_option maxRecDepth 100000 in
theorem reserved_nil (w : World) : Calls Try.prog 9 #[nilp] w fun e w' => e = .returned (.int .i64 0) ∧ w' = w := by
  go_enter Try.func9, Try.ntmps9
  go_wp2
  go_ret
  exact ⟨rfl, rfl⟩
set_option maxHeartbeats 1000000 in
set_option maxRecDepth 100000 in
theorem left_at (h : LAt w Q b n s) {t : Int} (ht : U64 t) : Calls Try.prog 14 #[lp Q, .int .u64 t] w fun e w' => e = .returned (.tuple #[.int .i64 ((look t s.L).getD 0), .bool (look t s.L).isSome]) ∧ w' = w := by
  have c3 := h.c3
  have hr := h.mp.run_look ht
  clear h
  generalize (look t s.L).getD 0 = a at *
  generalize (look t s.L).isSome = c at *
  go_enter Try.func14, Try.ntmps14
  go_wp2
  go_ret2
  exact ⟨rfl, rfl⟩
set_option maxHeartbeats 1000000 in
set_option maxRecDepth 100000 in
theorem left_nil (w : World) (t : Int) : Calls Try.prog 14 #[nilp, .int .u64 t] w fun e w' => e = .returned (.tuple #[.int .i64 0, .bool false]) ∧ w' = w := by
  go_enter Try.func14, Try.ntmps14
  go_wp2
  go_ret2
  exact ⟨rfl, rfl⟩
set_option maxHeartbeats 1000000 in
set_option maxRecDepth 100000 in
theorem marked_at (h : LAt w Q b n s) : Calls Try.prog 16 #[lp Q] w fun e w' => e = .returned (.bool (markedS s)) ∧ ∃ m, w' = w.drewN m := by
  have c1 := h.c1
  have c2 := h.c2
  clear h
  go_enter Try.func16, Try.ntmps16
  go_wp2_with fail
  go_quiet (fail)
  go_wp2
  go_ret
  exact ⟨rfl, _, rfl⟩
set_option maxHeartbeats 1000000 in
set_option maxRecDepth 100000 in
theorem marked_nil (w : World) : Calls Try.prog 16 #[nilp] w fun e w' => e = .returned (.bool false) ∧ ∃ m, w' = w.drewN m := by
  go_enter Try.func16, Try.ntmps16
  go_wp2_with fail
  go_quiet (fail)
  go_wp2
  go_ret
  exact ⟨rfl, _, rfl⟩
set_option maxHeartbeats 1000000 in
set_option maxRecDepth 100000 in
theorem fits_nil (w : World) (k : Int) : Calls Try.prog 15 #[nilp, .int .i64 k] w fun e w' => e = .returned (.bool false) ∧ ∃ m, w' = w.drewN m := by
  go_enter Try.func15, Try.ntmps15
  go_wp2_with fail
  go_quiet (fail)
  go_wp2
  go_ret
  exact ⟨rfl, _, rfl⟩
set_option maxHeartbeats 1000000 in
set_option maxRecDepth 100000 in
theorem fits_at (h : LAt w Q b n s) (ok : Ok s) (k : Int) : Calls Try.prog 15 #[lp Q, .int .i64 k] w fun e w' => e = .returned (.bool (fitsS s k)) ∧ ∃ m, w' = w.drewN m := by
  have c0 := h.c0
  have c2 := h.c2
  have c4 := h.c4
  obtain ⟨n1, n2, n3, n4, n5⟩ := ok.nums
  have HF : Hid (fitsS s k = decide (1 ≤ k ∧ k ≤ s.cap - s.used - total s.L)) := rfl
  clear h ok
  generalize fitsS s k = f at *
  generalize s.cap = cp at *
  generalize s.used = us at *
  generalize total s.L = tl at *
  go_enter Try.func15, Try.ntmps15
  go_wp2_with fail
  by_cases h1 : (1 : Int) ≤ k
  · go_quiet (fail)
    go_wp2
    go_ret
    refine ⟨?_, _, rfl⟩
    rw [HF.out]
    by_cases h2 : k ≤ cp - us - tl
    · simp [h1, h2]
    · simp [h2]
  · have h2 : decide ((1 : Int) ≤ k) = false := decide_eq_false h1
    go_quiet (fail)
    go_wp2
    go_ret
    refine ⟨?_, _, rfl⟩
    rw [HF.out]
    have h3 : ¬ (1 ≤ k ∧ k ≤ cp - us - tl) := by omega
    simp [h3]
theorem mayNew_not {c m : Int} (h : ¬ mayNew c m) : c < 2 ∨ 64 < c ∨ m < 1 ∨ c < m := by unfold mayNew at h; omega
set_option maxHeartbeats 1000000 in
set_option maxRecDepth 100000 in
theorem new_bad (w : World) {c m : Int} (h : ¬ mayNew c m) : Calls Try.prog 6 #[.int .i64 c, .int .i64 m] w fun e w' => e = .returned (.tuple #[nilp, .int .i64 2]) ∧ w' = w := by
  have h' := mayNew_not h
  clear h
  go_enter Try.func6, Try.ntmps6
  go_wp2_with fail
  rcases h' with h | h | h | h
  all_goals (go_wp2; go_ret2; exact ⟨rfl, rfl⟩)
set_option maxHeartbeats 1000000 in
set_option maxRecDepth 100000 in
theorem new_ok (w : World) {c m : Int} (h : mayNew c m) : Calls Try.prog 6 #[.int .i64 c, .int .i64 m] w fun e w' => e = .returned (.tuple #[lp (w.heap.size + 1), .int .i64 0]) ∧ LAt w' (w.heap.size + 1) w.heap.size 0 (newS c m) ∧ Below w.heap.size w w' := by
  obtain ⟨h1, h2, h3, h4⟩ := h
  have hmm := @run_makeMap Try.prog
  go_enter Try.func6, Try.ntmps6
  go_wp2
  go_ret2
  have e : (w.alloc (.map #[] 0)).heap.size = w.heap.size + 1 := by simp
  refine ⟨rfl, ⟨?_, (Mp.made w).kept ((below_alloc _ _).block _ (by rw [e]; omega))⟩, below_then (below_alloc w _) (below_alloc _ _)⟩
  rw [← e]
  exact heap_alloc_new _ _
end
end Go.Proofs.Ytjkmeljefbpbgaa
