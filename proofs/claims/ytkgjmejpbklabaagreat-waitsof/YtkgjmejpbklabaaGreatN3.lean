/-
  Layer 12: how a ledger lies; what only reads it, New. Layer 12: Reserve, Append, Close, Free, Copy. Layer 12: Copy.
-/
import Derived.WalkKit
import Derived.WalkSpells
import Derived.WalkLawsBesides
import Derived.Maps.OwnSet
import Derived.BigQuiet
import Derived.Deep.RegionHeld3
import Derived.LaidMore
import Derived.Test.YtkgjmejpbklabaaGreatTa
import Derived.Test.YtkgjmejpbklabaaGreatN1
import Derived.Shelf.Lay
import Derived.Shelf.SlMaps.Clone
namespace Go.Proofs.YtkgjmejpbklabaaGreat.L
open Go.RowKit
open Go.Maps (Keyed)
abbrev lp (Q : Nat) : Value := .pointer (some ⟨Q, 0, none⟩)
abbrev nilp : Value := .pointer none
theorem key30 : Keyed Tryz.prog 44 := Maps.int_keyed Tryz.underlying44
theorem zero3 (w : World) : (zeroValue 3).run Tryz.prog w = .ok (.int .i64 0) w := by kernel_rfl
/-- a uint64 -/
abbrev U64 (t : Int) : Prop := (Lit.int .u64 t).wf = true
theorem U64.key {t : Int} (h : U64 t) : keyOf Tryz.prog 44 (.int .u64 t) = some (.int .u64 t) := Maps.keyOf_int_mk Tryz.underlying44 h
theorem i64_wf {k : Int} (h0 : 0 ≤ k) (h1 : k ≤ 1000) : (Lit.int .i64 k).wf = true := by
  have e1 : IntKind.i64.min = -9223372036854775808 := by decide
  have e2 : IntKind.i64.max = 9223372036854775807 := by decide
  simp only [Lit.wf, e1, e2, Bool.and_eq_true, decide_eq_true_eq]
  omega
theorem Kept.of_grown {w w' : World} {b : Nat} (h : w.grownBy w' (some b)) : Kept (· = b) w w' := ⟨h.os, h.tape, h.output, h.size, fun x hx hne => h.block x hx fun e => hne (by simpa using e)⟩
/-- block b is a map that reads as L -/
def Mp (w : World) (b n : Nat) (L : List (Int × Int)) : Prop := ∃ D : DataW Unit, w.ownsMap Tryz.prog 44 (plainElem Tryz.prog 3) b n D ∧ ∀ t, U64 t → Maps.has D (.int .u64 t) = (look t L).isSome ∧ D.atKey (.int .u64 t) (.lit (.int .i64 0)) = .lit (.int .i64 ((look t L).getD 0))
theorem Mp.typ {w : World} {b n : Nat} {L : List (Int × Int)} (h : Mp w b n L) : ∃ es clock, w.heap[b]? = some (.map es clock) := by
  obtain ⟨D, ⟨es, clock, hb, _⟩, _⟩ := h
  exact ⟨es, clock, hb⟩
theorem Mp.lt {w : World} {b n : Nat} {L : List (Int × Int)} (h : Mp w b n L) : b < w.heap.size := by
  obtain ⟨es, clock, hb⟩ := h.typ
  exact (Array.getElem?_eq_some_iff.1 hb).1
theorem Mp.kept {w w' : World} {b n : Nat} {L : List (Int × Int)} (h : Mp w b n L) (hk : w'.heap[b]? = w.heap[b]?) : Mp w' b n L := by
  obtain ⟨D, ⟨es, clock, hb, r⟩, hD⟩ := h
  exact ⟨D, ⟨es, clock, hk.trans hb, r⟩, hD⟩
theorem Mp.mono {w : World} {b n m : Nat} {L : List (Int × Int)} (h : Mp w b n L) (hm : n ≤ m) : Mp w b m L := by
  obtain ⟨D, ho, hD⟩ := h
  exact ⟨D, ho.mono hm, hD⟩
theorem Mp.made (w : World) : Mp (w.alloc (.map #[] 0)) w.heap.size 0 [] := ⟨_, World.ownsMap_made w _ _ _, fun _ _ => ⟨rfl, rfl⟩⟩
set_option maxRecDepth 100000 in
theorem Mp.run_look {w : World} {b n : Nat} {L : List (Int × Int)} (h : Mp w b n L) {t : Int} (ht : U64 t) :
    (Instr.lookup 34 (.map (some b)) (.int .u64 t) true).run Tryz.prog w = .ok (.tuple #[.int .i64 ((look t L).getD 0), .bool (look t L).isSome]) w := by
  obtain ⟨D, ho, hD⟩ := h
  obtain ⟨v, ps, hrun, hv⟩ := ho.look_ok key30 Tryz.underlying34 (zero3 w) (plainElem_int Tryz.underlying3 (by decide)) ht.key
  obtain ⟨a, rfl, ha, _⟩ := plainElem_int_inv Tryz.underlying3 hv
  rw [(hD t ht).1] at hrun
  have e := congrArg Prod.fst ha
  simp only [(hD t ht).2] at e
  injection e with e
  injection e with _ e
  rw [hrun, e]
/-- 'm[k] = v' -/
theorem Mp.run_put {w : World} {b n : Nat} {L L' : List (Int × Int)} (h : Mp w b n L) (hn : n < 10000) {t v : Int} (ht : U64 t) (hv : (Lit.int .i64 v).wf = true) (hL : ∀ u, look u L' = if u = t then some v else look u L) :
    ∃ w', (Instr.mapUpdate 34 (.map (some b)) (.int .u64 t) (.int .i64 v)).run Tryz.prog w = .ok () w' ∧ Mp w' b (n + 1) L' ∧ Kept (· = b) w w' := by
  obtain ⟨D, ho, hD⟩ := h
  have hml : 10000 ≤ maxLen := by decide
  obtain ⟨w', hrun, h1, h2⟩ := ho.store key30 Tryz.underlying34 (by omega) ht.key (plainElem_int Tryz.underlying3 hv)
  refine ⟨w', hrun, ⟨_, h1, fun u hu => ?_⟩, Kept.of_grown h2.grown⟩
  rw [hL u]
  by_cases e : u = t
  · subst e
    rw [if_pos rfl, Maps.has_put_same ho.isMap (key30.key ht.key), Maps.atKey_put_same ho.isMap (key30.key ht.key)]
    exact ⟨rfl, rfl⟩
  · have hne : (Lit.int .u64 u) ≠ Lit.int .u64 t := fun e2 => e (by injection e2)
    rw [if_neg e, Maps.has_put_other hne, Maps.atKey_put_other hne]
    exact hD u hu
/-- 'delete(m, k)' -/
theorem Mp.run_del {w : World} {b n : Nat} {L L' : List (Int × Int)} (h : Mp w b n L) {t : Int} (ht : U64 t) (hL : ∀ u, look u L' = if u = t then none else look u L) (ty : TypeId) :
    ∃ w', (Builtin.delete_ #[34, 44] ty #[.map (some b), .int .u64 t]).run Tryz.prog w = .ok (.tuple #[]) w' ∧ Mp w' b n L' ∧ Kept (· = b) w w' := by
  obtain ⟨D, ho, hD⟩ := h
  obtain ⟨w', hrun, h1, h2⟩ := ho.drop key30 Tryz.underlying34 ht.key ty
  refine ⟨w', hrun, ⟨_, h1, fun u hu => ?_⟩, Kept.of_grown h2.grown⟩
  rw [hL u]
  by_cases e : u = t
  · subst e
    rw [if_pos rfl, Maps.has_del_same, Maps.atKey_del_same]
    exact ⟨rfl, rfl⟩
  · have hne : (Lit.int .u64 u) ≠ Lit.int .u64 t := fun e2 => e (by injection e2)
    rw [if_neg e, Maps.has_del_other hne, Maps.atKey_del_other hne]
    exact hD u hu
/-- how a ledger lies -/
structure LAt (w : World) (Q b n : Nat) (s : Lg) : Prop where
  st : w.heap[Q]? = some (.cells #[.int .i64 s.cap, .int .i64 s.mark, .int .i64 s.used, .map (some b), .int .i64 (total s.L)] 137 (0, 0))
  mp : Mp w b n s.L
section
variable {w w' : World} {Q b n : Nat} {s : Lg}
theorem LAt.lt (h : LAt w Q b n s) : Q < w.heap.size := (Array.getElem?_eq_some_iff.1 h.st).1
theorem LAt.c0 (h : LAt w Q b n s) : w.cell? ⟨Q, 0, none⟩ = some (.int .i64 s.cap) := by rw [cell_of_row _ Q 0 _ 137 (0, 0) h.st]; rfl
theorem LAt.c1 (h : LAt w Q b n s) : w.cell? ⟨Q, 1, none⟩ = some (.int .i64 s.mark) := by rw [cell_of_row _ Q 1 _ 137 (0, 0) h.st]; rfl
theorem LAt.c2 (h : LAt w Q b n s) : w.cell? ⟨Q, 2, none⟩ = some (.int .i64 s.used) := by rw [cell_of_row _ Q 2 _ 137 (0, 0) h.st]; rfl
theorem LAt.c3 (h : LAt w Q b n s) : w.cell? ⟨Q, 3, none⟩ = some (.map (some b)) := by rw [cell_of_row _ Q 3 _ 137 (0, 0) h.st]; rfl
theorem LAt.c4 (h : LAt w Q b n s) : w.cell? ⟨Q, 4, none⟩ = some (.int .i64 (total s.L)) := by rw [cell_of_row _ Q 4 _ 137 (0, 0) h.st]; rfl
theorem LAt.free (h : LAt w Q b n s) (o : Nat) : w.frozen? ⟨Q, o, none⟩ = false := by simp [World.frozen?, h.st]
theorem LAt.ne (h : LAt w Q b n s) : b ≠ Q := fun e => by
  obtain ⟨es, clock, hb⟩ := h.mp.typ
  rw [e, h.st] at hb
  cases hb
theorem LAt.kept (h : LAt w Q b n s) (h1 : w'.heap[Q]? = w.heap[Q]?) (h2 : w'.heap[b]? = w.heap[b]?) : LAt w' Q b n s := ⟨h1.trans h.st, h.mp.kept h2⟩
theorem LAt.later (h : LAt w Q b n s) (hb : Below w.heap.size w w') : LAt w' Q b n s := h.kept (hb.block Q h.lt) (hb.block b h.mp.lt)
theorem LAt.drawn (h : LAt w Q b n s) (nq : Nat) : LAt (w.drewN nq) Q b n s := h.later (below_drawn nq)
theorem LAt.mono {m : Nat} (h : LAt w Q b n s) (hm : n ≤ m) : LAt w Q b m s := ⟨h.st, h.mp.mono hm⟩
set_option maxHeartbeats 1000000 in
set_option maxRecDepth 100000 in
theorem left_at (h : LAt w Q b n s) {t : Int} (ht : U64 t) : Calls Tryz.prog 93 #[lp Q, .int .u64 t] w fun e w' => e = .returned (.tuple #[.int .i64 ((look t s.L).getD 0), .bool (look t s.L).isSome]) ∧ w' = w := by
  have c3 := h.c3
  have hr := h.mp.run_look ht
  clear h
  generalize (look t s.L).getD 0 = a at *
  generalize (look t s.L).isSome = c at *
  go_enter Tryz.func93, Tryz.ntmps93
  go_wp2
  go_ret2
  exact ⟨rfl, rfl⟩
set_option maxHeartbeats 1000000 in
set_option maxRecDepth 100000 in
theorem left_nil (w : World) (t : Int) : Calls Tryz.prog 93 #[nilp, .int .u64 t] w fun e w' => e = .returned (.tuple #[.int .i64 0, .bool false]) ∧ w' = w := by
  go_enter Tryz.func93, Tryz.ntmps93
  go_wp2
  go_ret2
  exact ⟨rfl, rfl⟩
set_option maxHeartbeats 1000000 in
set_option maxRecDepth 100000 in
theorem fits_nil (w : World) (k : Int) : Calls Tryz.prog 42 #[nilp, .int .i64 k] w fun e w' => e = .returned (.bool false) ∧ ∃ m, w' = w.drewN m := by
  go_enter Tryz.func42, Tryz.ntmps42
  go_wp2_with fail
  go_quiet (fail)
  go_wp2
  go_ret
  exact ⟨rfl, _, rfl⟩
set_option maxHeartbeats 1000000 in
set_option maxRecDepth 100000 in
theorem fits_at (h : LAt w Q b n s) (ok : Ok s) (k : Int) : Calls Tryz.prog 42 #[lp Q, .int .i64 k] w fun e w' => e = .returned (.bool (fitsS s k)) ∧ ∃ m, w' = w.drewN m := by
  have c0 := h.c0
  have c2 := h.c2
  have c4 := h.c4
  obtain ⟨n1, n2, n3, n4, n5⟩ := ok.nums
  have HF : Hid (fitsS s k = decide (1 ≤ k ∧ k ≤ s.cap - s.used - total s.L)) := rfl
  clear h ok
  generalize fitsS s k = f at *
  generalize s.cap = cp at *
  generalize s.used = us at *
  generalize total s.L = tl at *
  go_enter Tryz.func42, Tryz.ntmps42
  go_wp2_with fail
  by_cases h1 : (1 : Int) ≤ k
  · go_quiet (fail)
    go_wp2
    go_ret
    refine ⟨?_, _, rfl⟩
    rw [HF.out]
    by_cases h2 : k ≤ cp - us - tl
    · simp [h1, h2]
    · simp [h2]
  · have h2 : decide ((1 : Int) ≤ k) = false := decide_eq_false h1
    go_quiet (fail)
    go_wp2
    go_ret
    refine ⟨?_, _, rfl⟩
    rw [HF.out]
    have h3 : ¬ (1 ≤ k ∧ k ≤ cp - us - tl) := by omega
    simp [h3]
theorem mayNew_not {c m : Int} (h : ¬ mayNew c m) : c < 2 ∨ 64 < c ∨ m < 1 ∨ c < m := by unfold mayNew at h; omega
set_option maxHeartbeats 1000000 in
set_option maxRecDepth 100000 in
theorem new_bad (w : World) {c m : Int} (h : ¬ mayNew c m) : Calls Tryz.prog 47 #[.int .i64 c, .int .i64 m] w fun e w' => e = .returned (.tuple #[nilp, .int .i64 2]) ∧ w' = w := by
  have h' := mayNew_not h
  clear h
  go_enter Tryz.func47, Tryz.ntmps47
  go_wp2_with fail
  rcases h' with h | h | h | h
  all_goals (go_wp2; go_ret2; exact ⟨rfl, rfl⟩)
set_option maxHeartbeats 1000000 in
set_option maxRecDepth 100000 in
theorem new_ok (w : World) {c m : Int} (h : mayNew c m) : Calls Tryz.prog 47 #[.int .i64 c, .int .i64 m] w fun e w' => e = .returned (.tuple #[lp (w.heap.size + 1), .int .i64 0]) ∧ LAt w' (w.heap.size + 1) w.heap.size 0 (newS c m) ∧ Below w.heap.size w w' := by
  obtain ⟨h1, h2, h3, h4⟩ := h
  have hmm := @run_makeMap Tryz.prog
  go_enter Tryz.func47, Tryz.ntmps47
  go_wp2
  go_ret2
  have e : (w.alloc (.map #[] 0)).heap.size = w.heap.size + 1 := by simp
  refine ⟨rfl, ⟨?_, (Mp.made w).kept ((below_alloc _ _).block _ (by rw [e]; omega))⟩, below_then (below_alloc w _) (below_alloc _ _)⟩
  rw [← e]
  exact heap_alloc_new _ _
end
end Go.Proofs.YtkgjmejpbklabaaGreat.L
namespace Go.Proofs.YtkgjmejpbklabaaGreat.L
open Go.RowKit
theorem five {w : World} {Q : Nat} {a0 a1 a2 a3 a4 : Value} {ty : TypeId} (h : w.heap[Q]? = some (.cells #[a0, a1, a2, a3, a4] ty (0, 0))) :
    w.cell? ⟨Q, 0, none⟩ = some a0 ∧ w.cell? ⟨Q, 1, none⟩ = some a1 ∧ w.cell? ⟨Q, 2, none⟩ = some a2 ∧ w.cell? ⟨Q, 3, none⟩ = some a3 ∧ w.cell? ⟨Q, 4, none⟩ = some a4 ∧ ∀ o, w.frozen? ⟨Q, o, none⟩ = false :=
  ⟨by rw [cell_of_row _ Q 0 _ ty (0, 0) h]; rfl, by rw [cell_of_row _ Q 1 _ ty (0, 0) h]; rfl, by rw [cell_of_row _ Q 2 _ ty (0, 0) h]; rfl, by rw [cell_of_row _ Q 3 _ ty (0, 0) h]; rfl, by rw [cell_of_row _ Q 4 _ ty (0, 0) h]; rfl, fun o => by simp [World.frozen?, h]⟩
theorem st_set {w : World} {Q : Nat} {cs : Array Value} {ty : TypeId} (o : Nat) (v : Value) (h : w.heap[Q]? = some (.cells cs ty (0, 0))) : (w.setCell ⟨Q, o, none⟩ v).heap[Q]? = some (.cells (cs.setIfInBounds o v) ty (0, 0)) := by
  rw [setCell_eq_setRow w Q o _ ty (0, 0) v h]
  exact setRow_heap w Q _ _ ty _ h
theorem rsvE_in {s : Lg} {t k : Int} (h : t = 0 ∨ k < 1) : rsvE s t k = 2 := by simp only [rsvE, if_pos h]
theorem rsvE_has {s : Lg} {t k v : Int} (h : ¬ (t = 0 ∨ k < 1)) (e : look t s.L = some v) : rsvE s t k = 110 := by simp only [rsvE, if_neg h, e, Option.isSome_some, if_true]
theorem rsvE_room {s : Lg} {t k : Int} (h : ¬ (t = 0 ∨ k < 1)) (e : look t s.L = none) (f : fitsS s k = false) : rsvE s t k = 120 := by simp [rsvE, if_neg h, e, f]
theorem rsvE_ok {s : Lg} {t k : Int} (h : ¬ (t = 0 ∨ k < 1)) (e : look t s.L = none) (f : fitsS s k = true) : rsvE s t k = 0 := by simp [rsvE, if_neg h, e, f]
theorem rsvS_not {s : Lg} {t k : Int} (h : rsvE s t k ≠ 0) : rsvS s t k = s := if_neg h
theorem rsvS_ok {s : Lg} {t k : Int} (h : rsvE s t k = 0) : rsvS s t k = { s with L := s.L ++ [(t, k)] } := if_pos h
section
variable {w w' : World} {Q b n : Nat} {s : Lg}
/-- the blocks of a ledger -/
def LF (Q b : Nat) (x : Nat) : Prop := x = Q ∨ x = b
set_option maxHeartbeats 1000000 in
set_option maxRecDepth 100000 in
theorem reserve_nil (w : World) (t k : Int) : Calls Tryz.prog 62 #[nilp, .int .u64 t, .int .i64 k] w fun e w' => e = .returned (.int .i64 1) ∧ w' = w := by
  go_enter Tryz.func62, Tryz.ntmps62
  go_wp2
  go_ret
  exact ⟨rfl, rfl⟩
set_option maxHeartbeats 1000000 in
set_option maxRecDepth 100000 in
theorem reserve_in (w : World) (Q : Nat) {t k : Int} (h : t = 0 ∨ k < 1) : Calls Tryz.prog 62 #[lp Q, .int .u64 t, .int .i64 k] w fun e w' => e = .returned (.int .i64 2) ∧ w' = w := by
  by_cases h0 : t = 0
  · subst h0
    clear h
    go_enter Tryz.func62, Tryz.ntmps62
    go_wp2
    go_ret
    exact ⟨rfl, rfl⟩
  · have h1 : k < 1 := by omega
    have h2 : (t == 0) = false := by simpa using h0
    clear h
    go_enter Tryz.func62, Tryz.ntmps62
    go_wp2
    go_ret
    exact ⟨rfl, rfl⟩
set_option maxHeartbeats 1000000 in
set_option maxRecDepth 100000 in
theorem reserve_has (h : LAt w Q b n s) {t k v : Int} (ht : U64 t) (h0 : ¬ t = 0) (h1 : ¬ k < 1) (e : look t s.L = some v) : Calls Tryz.prog 62 #[lp Q, .int .u64 t, .int .i64 k] w fun e w' => e = .returned (.int .i64 110) ∧ w' = w := by
  have c3 := h.c3
  have hr := h.mp.run_look ht
  rw [e] at hr
  simp only [Option.getD_some, Option.isSome_some] at hr
  have h2 : (t == 0) = false := by simpa using h0
  clear h
  go_enter Tryz.func62, Tryz.ntmps62
  go_wp2
  go_ret
  exact ⟨rfl, rfl⟩
set_option maxHeartbeats 1000000 in
set_option maxRecDepth 100000 in
theorem reserve_room (h : LAt w Q b n s) (ok : Ok s) {t k : Int} (ht : U64 t) (h0 : ¬ t = 0) (h1 : ¬ k < 1) (e : look t s.L = none) (f : fitsS s k = false) : Calls Tryz.prog 62 #[lp Q, .int .u64 t, .int .i64 k] w fun e w' => e = .returned (.int .i64 120) ∧ ∃ m, w' = w.drewN m := by
  have c3 := h.c3
  have hr := h.mp.run_look ht
  rw [e] at hr
  simp only [Option.getD_none, Option.isSome_none] at hr
  have h2 : (t == 0) = false := by simpa using h0
  have hf := fits_at h ok k
  rw [f] at hf
  clear h ok
  go_enter Tryz.func62, Tryz.ntmps62
  go_wp2_with (go_at_call 42; refine hf.mono ?_; rintro e w' ⟨rfl, m, rfl⟩)
  go_ret
  exact ⟨rfl, _, rfl⟩
set_option maxHeartbeats 1000000 in
set_option maxRecDepth 100000 in
theorem reserve_ok (h : LAt w Q b n s) (ok : Ok s) (hn : n < 10000) {t k : Int} (ht : U64 t) (h0 : ¬ t = 0) (h1 : ¬ k < 1) (e : look t s.L = none) (f : fitsS s k = true) :
    Calls Tryz.prog 62 #[lp Q, .int .u64 t, .int .i64 k] w fun e w' => e = .returned (.int .i64 0) ∧ LAt w' Q b (n + 1) { s with L := s.L ++ [(t, k)] } ∧ Kept (LF Q b) w w' := by
  have c3 := h.c3
  have hr := h.mp.run_look ht
  rw [e] at hr
  simp only [Option.getD_none, Option.isSome_none] at hr
  have h2 : (t == 0) = false := by simpa using h0
  have hf := fits_at h ok k
  have f' : 1 ≤ k ∧ k ≤ s.cap - s.used - total s.L := by simpa [fitsS] using f
  rw [f] at hf
  obtain ⟨n1, n2, n3, n4, n5⟩ := ok.nums
  have hf2 : Calls Tryz.prog 42 #[lp Q, .int .i64 k] w fun e w' => e = .returned (.bool true) ∧ LAt w' Q b n s ∧ Kept (LF Q b) w w' := hf.mono fun e w' hh => by
    obtain ⟨h1, m, rfl⟩ := hh
    exact ⟨h1, h.drawn m, Kept.of_below _ (below_drawn m)⟩
  clear h ok hf
  go_enter Tryz.func62, Tryz.ntmps62
  go_wp2_with fail
  refine hf2.mono ?_
  rintro e w1 ⟨rfl, h3, k3⟩
  have H3 : Hid (LAt w1 Q b n s ∧ Kept (LF Q b) w w1) := ⟨h3, k3⟩
  obtain ⟨w2, hu, hm, hk⟩ := h3.mp.run_put (L' := s.L ++ [(t, k)]) hn ht (i64_wf (by omega) (by omega)) (fun u => look_app e)
  have hs2 : Hid (w2.heap[Q]? = some (.cells #[.int .i64 s.cap, .int .i64 s.mark, .int .i64 s.used, .map (some b), .int .i64 (total s.L)] 137 (0, 0))) := (hk.block Q h3.lt (fun e => h3.ne e.symm)).trans h3.st
  have H2 : Hid (Mp w2 b (n + 1) (s.L ++ [(t, k)]) ∧ Kept (· = b) w1 w2) := ⟨hm, hk⟩
  have d3 := h3.c3
  obtain ⟨_, _, _, _, e4, ef⟩ := five hs2.out
  have e4f := ef 4
  clear h3 k3 hm hk ef hr
  go_wp2
  go_ret
  refine ⟨rfl, ⟨?_, H2.out.1.kept ((Kept.setCell Q 4 _).block b H2.out.1.lt H3.out.1.ne)⟩, (H3.out.2.trans H2.out.2 fun x _ e => .inr e).trans (Kept.setCell Q 4 _) fun x _ e => .inl e⟩
  rw [st_set 4 _ hs2.out, total_app]
  rfl
theorem reserve_at (h : LAt w Q b n s) (ok : Ok s) (hn : n < 10000) {t : Int} (ht : U64 t) (k : Int) :
    Calls Tryz.prog 62 #[lp Q, .int .u64 t, .int .i64 k] w fun e w' => e = .returned (.int .i64 (rsvE s t k)) ∧ LAt w' Q b (n + 1) (rsvS s t k) ∧ Kept (LF Q b) w w' := by
  by_cases h1 : t = 0 ∨ k < 1
  · have e1 := rsvE_in (s := s) h1
    rw [e1, rsvS_not (by rw [e1]; decide)]
    exact (reserve_in w Q h1).mono fun e w' ⟨a, c⟩ => ⟨a, by rw [c]; exact h.mono (Nat.le_succ _), by rw [c]; exact Kept.refl _ _⟩
  · cases hl : look t s.L with
    | some v =>
      have e1 := rsvE_has h1 hl
      rw [e1, rsvS_not (by rw [e1]; decide)]
      exact (reserve_has h ht (by omega) (by omega) hl).mono fun e w' ⟨a, c⟩ => ⟨a, by rw [c]; exact h.mono (Nat.le_succ _), by rw [c]; exact Kept.refl _ _⟩
    | none =>
      cases hf : fitsS s k with
      | false =>
        have e1 := rsvE_room h1 hl hf
        rw [e1, rsvS_not (by rw [e1]; decide)]
        refine (reserve_room h ok ht (by omega) (by omega) hl hf).mono fun e w' hh => ?_
        obtain ⟨a, m, rfl⟩ := hh
        exact ⟨a, (h.drawn m).mono (Nat.le_succ _), Kept.of_below _ (below_drawn m)⟩
      | true =>
        have e1 := rsvE_ok h1 hl hf
        rw [e1, rsvS_ok e1]
        exact reserve_ok h ok hn ht (by omega) (by omega) hl hf
set_option maxHeartbeats 1000000 in
set_option maxRecDepth 100000 in
theorem append_nil (w : World) (t : Int) : Calls Tryz.prog 70 #[nilp, .int .u64 t] w fun e w' => e = .returned (.int .i64 1) ∧ w' = w := by
  go_enter Tryz.func70, Tryz.ntmps70
  go_wp2
  go_ret
  exact ⟨rfl, rfl⟩
set_option maxHeartbeats 1000000 in
set_option maxRecDepth 100000 in
theorem append_at (h : LAt w Q b n s) (ok : Ok s) (hn : n < 10000) {t : Int} (ht : U64 t) :
    Calls Tryz.prog 70 #[lp Q, .int .u64 t] w fun e w' => e = .returned (.int .i64 (appE s t)) ∧ LAt w' Q b (n + 1) (appS s t) ∧ Kept (LF Q b) w w' := by
  have H : Hid (LAt w Q b n s) := h
  have c3 := h.c3
  have hr := h.mp.run_look ht
  cases e : look t s.L with
  | none =>
    rw [e] at hr
    simp only [Option.getD_none, Option.isSome_none] at hr
    have HE : Hid (appE s t = 110 ∧ appS s t = s) := ⟨by simp [appE, e], by simp [appS, e]⟩
    clear h ok
    go_enter Tryz.func70, Tryz.ntmps70
    go_wp2
    go_ret
    rw [HE.out.1, HE.out.2]
    exact ⟨rfl, H.out.mono (Nat.le_succ _), Kept.refl _ _⟩
  | some v =>
    rw [e] at hr
    simp only [Option.getD_some, Option.isSome_some] at hr
    by_cases hv : v = 0
    · subst hv
      have HE : Hid (appE s t = 120 ∧ appS s t = s) := ⟨by simp [appE, e], by simp [appS, e]⟩
      clear h ok
      go_enter Tryz.func70, Tryz.ntmps70
      go_wp2
      go_ret
      rw [HE.out.1, HE.out.2]
      exact ⟨rfl, H.out.mono (Nat.le_succ _), Kept.refl _ _⟩
    · have HE : Hid (appE s t = 0 ∧ appS s t = { s with used := s.used + 1, L := set t (v - 1) s.L }) := ⟨by simp [appE, e, hv], by simp [appS, e, hv]⟩
      obtain ⟨n1, n2, n3, n4, n5⟩ := ok.nums
      have hle := look_le ok.fine e
      have hv2 : (v == 0) = false := by simpa using hv
      have HT : Hid (total (set t (v - 1) s.L) = total s.L - 1) := by have := total_set (v := v - 1) e; show _ = _; omega
      obtain ⟨w2, hu, hm, hk⟩ := h.mp.run_put (L' := set t (v - 1) s.L) (v := v - 1) hn ht (i64_wf (by omega) (by omega)) (fun u => look_set e)
      have hs2 : Hid (w2.heap[Q]? = some (.cells #[.int .i64 s.cap, .int .i64 s.mark, .int .i64 s.used, .map (some b), .int .i64 (total s.L)] 137 (0, 0))) := (hk.block Q h.lt (fun e => h.ne e.symm)).trans h.st
      have H2 : Hid (Mp w2 b (n + 1) (set t (v - 1) s.L) ∧ Kept (· = b) w w2) := ⟨hm, hk⟩
      obtain ⟨_, _, e2, _, e4, ef⟩ := five hs2.out
      have e4f := ef 4
      have e2f := ef 2
      clear h ok hm hk ef hv e
      generalize s.used = us at *
      generalize total s.L = tl at *
      go_enter Tryz.func70, Tryz.ntmps70
      go_wp2
      go_ret
      rw [HE.out.1, HE.out.2]
      refine ⟨rfl, ⟨?_, (H2.out.1.kept ((Kept.setCell Q 4 _).block b H2.out.1.lt H.out.ne)).kept ((Kept.setCell Q 2 _).block b (by have := H2.out.1.lt; simpa using this) H.out.ne)⟩, ((H2.out.2.wider fun x _ e => .inr e).trans (Kept.setCell Q 4 _) fun x _ e => .inl e).trans (Kept.setCell Q 2 _) fun x _ e => .inl e⟩
      rw [st_set 2 _ (st_set 4 _ hs2.out), HT.out]
      rfl
set_option maxHeartbeats 1000000 in
set_option maxRecDepth 100000 in
theorem close_nil (w : World) (t : Int) : Calls Tryz.prog 94 #[nilp, .int .u64 t] w fun e w' => e = .returned (.int .i64 1) ∧ w' = w := by
  go_enter Tryz.func94, Tryz.ntmps94
  go_wp2
  go_ret
  exact ⟨rfl, rfl⟩
theorem wpList_delete_mp {ops : Array Oper} {rest : List Oper} {o : Oper} {a : Act} {R : Exit → Act → World → Prop} (hg : o.guard = none) (m x : Operand) (hop : o.op = Op.call { callee := Callee.builtin Builtin.delete, args := #[m, x], argTypes := #[34, 44] })
    (L L' : List (Int × Int)) (hm : a.eval m = .map (some b)) (h : Mp w b n L) (t : Int) (ht : U64 t) (hx : a.eval x = .int .u64 t) (hL : ∀ u, look u L' = if u = t then none else look u L)
    (hK : ∀ w', Mp w' b n L' → Kept (· = b) w w' → wpList Tryz.prog ops R rest (a.put o.dst (.tuple #[])) w') :
    wpList Tryz.prog ops R (o :: rest) a w := by
  refine wpList_plain hg fun K' hK' => ?_
  obtain ⟨w', hrun, r1, r2⟩ := h.run_del ht hL o.type
  unfold Oper.wp
  simp [execOp, hop, resolve, invoke, builtin, hm, hx, hrun, Result.andThen]
  exact hK' _ _ (hK w' r1 r2)
set_option maxHeartbeats 1000000 in
set_option maxRecDepth 100000 in
theorem close_at (h : LAt w Q b n s) (ok : Ok s) {t : Int} (ht : U64 t) :
    Calls Tryz.prog 94 #[lp Q, .int .u64 t] w fun e w' => e = .returned (.int .i64 (clsE s t)) ∧ LAt w' Q b (n + 1) (clsS s t) ∧ Kept (LF Q b) w w' := by
  have H : Hid (LAt w Q b n s) := h
  have c3 := h.c3
  have hr := h.mp.run_look ht
  cases e : look t s.L with
  | none =>
    rw [e] at hr
    simp only [Option.getD_none, Option.isSome_none] at hr
    have HE : Hid (clsE s t = 110 ∧ clsS s t = s) := ⟨by simp [clsE, e], by simp [clsS, cut_none e]⟩
    clear h ok
    go_enter Tryz.func94, Tryz.ntmps94
    go_wp2
    go_ret
    rw [HE.out.1, HE.out.2]
    exact ⟨rfl, H.out.mono (Nat.le_succ _), Kept.refl _ _⟩
  | some v =>
    rw [e] at hr
    simp only [Option.getD_some, Option.isSome_some] at hr
    have HE : Hid (clsE s t = 0) := by show _ = _; simp [clsE, e]
    obtain ⟨n1, n2, n3, n4, n5⟩ := ok.nums
    have hle := look_le ok.fine e
    have HT : Hid (total (cut t s.L) = total s.L - v) := total_cut e
    have hcut : Hid (∀ u, look u (cut t s.L) = if u = t then none else look u s.L) := fun u => look_cut ok.fine
    clear h ok e
    go_enter Tryz.func94, Tryz.ntmps94
    go_wp2_with (at_delete; refine wpList_delete_mp rfl (.tmp 23) (.tmp 24) rfl s.L (cut t s.L) rfl H.out.mp t ht rfl hcut.out ?_; intro w2 hm hk; have hs2 : Hid (w2.heap[Q]? = some (.cells #[.int .i64 s.cap, .int .i64 s.mark, .int .i64 s.used, .map (some b), .int .i64 (total s.L)] 137 (0, 0))) := (hk.block Q H.out.lt (fun e => H.out.ne e.symm)).trans H.out.st; have H2 : Hid (Mp w2 b n (cut t s.L) ∧ Kept (· = b) w w2) := ⟨hm, hk⟩; have e4 := (five hs2.out).2.2.2.2.1; have e4f := (five hs2.out).2.2.2.2.2 4; clear hm hk hr c3)
    go_ret
    rw [HE.out]
    refine ⟨rfl, ⟨?_, (H2.out.1.kept ((Kept.setCell Q 4 _).block b H2.out.1.lt H.out.ne)).mono (Nat.le_succ _)⟩, ((H2.out.2.wider fun x _ e => .inr e).trans (Kept.setCell Q 4 _) fun x _ e => .inl e)⟩
    rw [st_set 4 _ hs2.out]
    show _ = some (Obj.cells #[.int .i64 s.cap, .int .i64 s.mark, .int .i64 s.used, .map (some b), .int .i64 (total (cut t s.L))] 137 (0, 0))
    rw [HT.out]
    rfl
set_option maxHeartbeats 1000000 in
set_option maxRecDepth 100000 in
theorem free_nil (w : World) (k : Int) : Calls Tryz.prog 73 #[nilp, .int .i64 k] w fun e w' => e = .returned (.int .i64 1) ∧ w' = w := by
  go_enter Tryz.func73, Tryz.ntmps73
  go_wp2
  go_ret
  exact ⟨rfl, rfl⟩
set_option maxHeartbeats 1000000 in
set_option maxRecDepth 100000 in
theorem free_at (h : LAt w Q b n s) (ok : Ok s) (k : Int) :
    Calls Tryz.prog 73 #[lp Q, .int .i64 k] w fun e w' => e = .returned (.int .i64 (freE s k)) ∧ LAt w' Q b (n + 1) (freS s k) ∧ Kept (LF Q b) w w' := by
  have H : Hid (LAt w Q b n s) := h
  have c2 := h.c2
  have f2 := h.free 2
  obtain ⟨n1, n2, n3, n4, n5⟩ := ok.nums
  by_cases hk : 0 ≤ k ∧ k ≤ s.used
  · have HE : Hid (freE s k = 0 ∧ freS s k = { s with used := s.used - k }) := ⟨if_pos hk, if_pos hk⟩
    obtain ⟨k1, k2⟩ := hk
    clear h ok
    generalize s.used = us at *
    go_enter Tryz.func73, Tryz.ntmps73
    go_wp2
    go_ret
    rw [HE.out.1, HE.out.2]
    refine ⟨rfl, ⟨?_, (H.out.mp.kept ((Kept.setCell Q 2 _).block b H.out.mp.lt H.out.ne)).mono (Nat.le_succ _)⟩, (Kept.setCell Q 2 _).wider fun x _ e => .inl e⟩
    rw [st_set 2 _ H.out.st]
    rfl
  · have HE : Hid (freE s k = 2 ∧ freS s k = s) := ⟨if_neg hk, if_neg hk⟩
    clear h ok
    generalize s.used = us at *
    by_cases k1 : k < 0
    · go_enter Tryz.func73, Tryz.ntmps73
      go_wp2
      go_ret
      rw [HE.out.1, HE.out.2]
      exact ⟨rfl, H.out.mono (Nat.le_succ _), Kept.refl _ _⟩
    · have k2 : us < k := by omega
      clear hk
      go_enter Tryz.func73, Tryz.ntmps73
      go_wp2
      go_ret
      rw [HE.out.1, HE.out.2]
      exact ⟨rfl, H.out.mono (Nat.le_succ _), Kept.refl _ _⟩
end
end Go.Proofs.YtkgjmejpbklabaaGreat.L
namespace Go.Proofs.YtkgjmejpbklabaaGreat.L
open Go.RowKit
def Tryz.cloneM_ren : Go.Shelf.Ren := ⟨fun | 5 => 21 | 7 => 32 | n => n, fun | 23 => 34 | 25 => 44 | 3 => 3 | 4 => 4 | 20 => 20 | n => n, fun | n => n⟩
section
variable {w w' : World} {Q b n : Nat} {s : Lg}
end
end Go.Proofs.YtkgjmejpbklabaaGreat.L
