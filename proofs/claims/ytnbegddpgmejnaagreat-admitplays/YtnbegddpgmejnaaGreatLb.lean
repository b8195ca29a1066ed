/-
  Layer 12: Reserve, Append, Close, Free, Copy.
-/
import Derived.Shelf.Lay
import Derived.Shelf.SlMaps.Clone
import Derived.Test.YtnbegddpgmejnaaGreatLa
namespace Go.Proofs.YtnbegddpgmejnaaGreat.L
open Go.RowKit
theorem five {w : World} {Q : Nat} {a0 a1 a2 a3 a4 : Value} {ty : TypeId} (h : w.heap[Q]? = some (.cells #[a0, a1, a2, a3, a4] ty (0, 0))) :
    w.cell? ⟨Q, 0, none⟩ = some a0 ∧ w.cell? ⟨Q, 1, none⟩ = some a1 ∧ w.cell? ⟨Q, 2, none⟩ = some a2 ∧ w.cell? ⟨Q, 3, none⟩ = some a3 ∧ w.cell? ⟨Q, 4, none⟩ = some a4 ∧ ∀ o, w.frozen? ⟨Q, o, none⟩ = false :=
  ⟨by rw [cell_of_row _ Q 0 _ ty (0, 0) h]; rfl, by rw [cell_of_row _ Q 1 _ ty (0, 0) h]; rfl, by rw [cell_of_row _ Q 2 _ ty (0, 0) h]; rfl, by rw [cell_of_row _ Q 3 _ ty (0, 0) h]; rfl, by rw [cell_of_row _ Q 4 _ ty (0, 0) h]; rfl, fun o => by simp [World.frozen?, h]⟩
theorem st_set {w : World} {Q : Nat} {cs : Array Value} {ty : TypeId} (o : Nat) (v : Value) (h : w.heap[Q]? = some (.cells cs ty (0, 0))) : (w.setCell ⟨Q, o, none⟩ v).heap[Q]? = some (.cells (cs.setIfInBounds o v) ty (0, 0)) := by
  rw [setCell_eq_setRow w Q o _ ty (0, 0) v h]
  exact setRow_heap w Q _ _ ty _ h
theorem rsvE_in {s : Lg} {t k : Int} (h : t = 0 ∨ k < 1) : rsvE s t k = 2 := by simp only [rsvE, if_pos h]
theorem rsvE_has {s : Lg} {t k v : Int} (h : ¬ (t = 0 ∨ k < 1)) (e : look t s.L = some v) : rsvE s t k = 110 := by simp only [rsvE, if_neg h, e, Option.isSome_some, if_true]
theorem rsvE_room {s : Lg} {t k : Int} (h : ¬ (t = 0 ∨ k < 1)) (e : look t s.L = none) (f : fitsS s k = false) : rsvE s t k = 120 := by simp [rsvE, if_neg h, e, f]
theorem rsvE_ok {s : Lg} {t k : Int} (h : ¬ (t = 0 ∨ k < 1)) (e : look t s.L = none) (f : fitsS s k = true) : rsvE s t k = 0 := by simp [rsvE, if_neg h, e, f]
theorem rsvS_not {s : Lg} {t k : Int} (h : rsvE s t k ≠ 0) : rsvS s t k = s := if_neg h
theorem rsvS_ok {s : Lg} {t k : Int} (h : rsvE s t k = 0) : rsvS s t k = { s with L := s.L ++ [(t, k)] } := if_pos h
section
variable {w w' : World} {Q b n : Nat} {s : Lg}
/-- the blocks of a ledger -/
def LF (Q b : Nat) (x : Nat) : Prop := x = Q ∨ x = b
set_option maxHeartbeats 1000000 in
set_option maxRecDepth 100000 in
theorem reserve_nil (w : World) (t k : Int) : Calls Tryz.prog 51 #[nilp, .int .u64 t, .int .i64 k] w fun e w' => e = .returned (.int .i64 1) ∧ w' = w := by
  go_enter Tryz.func51, Tryz.ntmps51
  go_wp2
  go_ret
  exact ⟨rfl, rfl⟩
set_option maxHeartbeats 1000000 in
set_option maxRecDepth 100000 in
theorem reserve_in (w : World) (Q : Nat) {t k : Int} (h : t = 0 ∨ k < 1) : Calls Tryz.prog 51 #[lp Q, .int .u64 t, .int .i64 k] w fun e w' => e = .returned (.int .i64 2) ∧ w' = w := by
  by_cases h0 : t = 0
  · subst h0
    clear h
    go_enter Tryz.func51, Tryz.ntmps51
    go_wp2
    go_ret
    exact ⟨rfl, rfl⟩
  · have h1 : k < 1 := by omega
    have h2 : (t == 0) = false := by simpa using h0
    clear h
    go_enter Tryz.func51, Tryz.ntmps51
    go_wp2
    go_ret
    exact ⟨rfl, rfl⟩
set_option maxHeartbeats 1000000 in
set_option maxRecDepth 100000 in
theorem reserve_has (h : LAt w Q b n s) {t k v : Int} (ht : U64 t) (h0 : ¬ t = 0) (h1 : ¬ k < 1) (e : look t s.L = some v) : Calls Tryz.prog 51 #[lp Q, .int .u64 t, .int .i64 k] w fun e w' => e = .returned (.int .i64 110) ∧ w' = w := by
  have c3 := h.c3
  have hr := h.mp.run_look ht
  rw [e] at hr
  simp only [Option.getD_some, Option.isSome_some] at hr
  have h2 : (t == 0) = false := by simpa using h0
  clear h
  go_enter Tryz.func51, Tryz.ntmps51
  go_wp2
  go_ret
  exact ⟨rfl, rfl⟩
set_option maxHeartbeats 1000000 in
set_option maxRecDepth 100000 in
theorem reserve_room (h : LAt w Q b n s) (ok : Ok s) {t k : Int} (ht : U64 t) (h0 : ¬ t = 0) (h1 : ¬ k < 1) (e : look t s.L = none) (f : fitsS s k = false) : Calls Tryz.prog 51 #[lp Q, .int .u64 t, .int .i64 k] w fun e w' => e = .returned (.int .i64 120) ∧ ∃ m, w' = w.drewN m := by
  have c3 := h.c3
  have hr := h.mp.run_look ht
  rw [e] at hr
  simp only [Option.getD_none, Option.isSome_none] at hr
  have h2 : (t == 0) = false := by simpa using h0
  have hf := fits_at h ok k
  rw [f] at hf
  clear h ok
  go_enter Tryz.func51, Tryz.ntmps51
  go_wp2_with (go_at_call 49; refine hf.mono ?_; rintro e w' ⟨rfl, m, rfl⟩)
  go_ret
  exact ⟨rfl, _, rfl⟩
set_option maxHeartbeats 1000000 in
set_option maxRecDepth 100000 in
theorem reserve_ok (h : LAt w Q b n s) (ok : Ok s) (hn : n < 10000) {t k : Int} (ht : U64 t) (h0 : ¬ t = 0) (h1 : ¬ k < 1) (e : look t s.L = none) (f : fitsS s k = true) :
    Calls Tryz.prog 51 #[lp Q, .int .u64 t, .int .i64 k] w fun e w' => e = .returned (.int .i64 0) ∧ LAt w' Q b (n + 1) { s with L := s.L ++ [(t, k)] } ∧ Kept (LF Q b) w w' := by
  have c3 := h.c3
  have hr := h.mp.run_look ht
  rw [e] at hr
  simp only [Option.getD_none, Option.isSome_none] at hr
  have h2 : (t == 0) = false := by simpa using h0
  have hf := fits_at h ok k
  have f' : 1 ≤ k ∧ k ≤ s.cap - s.used - total s.L := by simpa [fitsS] using f
  rw [f] at hf
  obtain ⟨n1, n2, n3, n4, n5⟩ := ok.nums
  have hf2 : Calls Tryz.prog 49 #[lp Q, .int .i64 k] w fun e w' => e = .returned (.bool true) ∧ LAt w' Q b n s ∧ Kept (LF Q b) w w' := hf.mono fun e w' hh => by
    obtain ⟨h1, m, rfl⟩ := hh
    exact ⟨h1, h.drawn m, Kept.of_below _ (below_drawn m)⟩
  clear h ok hf
  go_enter Tryz.func51, Tryz.ntmps51
  go_wp2_with fail
  refine hf2.mono ?_
  rintro e w1 ⟨rfl, h3, k3⟩
  have H3 : Hid (LAt w1 Q b n s ∧ Kept (LF Q b) w w1) := ⟨h3, k3⟩
  obtain ⟨w2, hu, hm, hk⟩ := h3.mp.run_put (L' := s.L ++ [(t, k)]) hn ht (i64_wf (by omega) (by omega)) (fun u => look_app e)
  have hs2 : Hid (w2.heap[Q]? = some (.cells #[.int .i64 s.cap, .int .i64 s.mark, .int .i64 s.used, .map (some b), .int .i64 (total s.L)] 102 (0, 0))) := (hk.block Q h3.lt (fun e => h3.ne e.symm)).trans h3.st
  have H2 : Hid (Mp w2 b (n + 1) (s.L ++ [(t, k)]) ∧ Kept (· = b) w1 w2) := ⟨hm, hk⟩
  have d3 := h3.c3
  obtain ⟨_, _, _, _, e4, ef⟩ := five hs2.out
  have e4f := ef 4
  clear h3 k3 hm hk ef hr
  go_wp2
  go_ret
  refine ⟨rfl, ⟨?_, H2.out.1.kept ((Kept.setCell Q 4 _).block b H2.out.1.lt H3.out.1.ne)⟩, (H3.out.2.trans H2.out.2 fun x _ e => .inr e).trans (Kept.setCell Q 4 _) fun x _ e => .inl e⟩
  rw [st_set 4 _ hs2.out, total_app]
  rfl
theorem reserve_at (h : LAt w Q b n s) (ok : Ok s) (hn : n < 10000) {t : Int} (ht : U64 t) (k : Int) :
    Calls Tryz.prog 51 #[lp Q, .int .u64 t, .int .i64 k] w fun e w' => e = .returned (.int .i64 (rsvE s t k)) ∧ LAt w' Q b (n + 1) (rsvS s t k) ∧ Kept (LF Q b) w w' := by
  by_cases h1 : t = 0 ∨ k < 1
  · have e1 := rsvE_in (s := s) h1
    rw [e1, rsvS_not (by rw [e1]; decide)]
    exact (reserve_in w Q h1).mono fun e w' ⟨a, c⟩ => ⟨a, by rw [c]; exact h.mono (Nat.le_succ _), by rw [c]; exact Kept.refl _ _⟩
  · cases hl : look t s.L with
    | some v =>
      have e1 := rsvE_has h1 hl
      rw [e1, rsvS_not (by rw [e1]; decide)]
      exact (reserve_has h ht (by omega) (by omega) hl).mono fun e w' ⟨a, c⟩ => ⟨a, by rw [c]; exact h.mono (Nat.le_succ _), by rw [c]; exact Kept.refl _ _⟩
    | none =>
      cases hf : fitsS s k with
      | false =>
        have e1 := rsvE_room h1 hl hf
        rw [e1, rsvS_not (by rw [e1]; decide)]
        refine (reserve_room h ok ht (by omega) (by omega) hl hf).mono fun e w' hh => ?_
        obtain ⟨a, m, rfl⟩ := hh
        exact ⟨a, (h.drawn m).mono (Nat.le_succ _), Kept.of_below _ (below_drawn m)⟩
      | true =>
        have e1 := rsvE_ok h1 hl hf
        rw [e1, rsvS_ok e1]
        exact reserve_ok h ok hn ht (by omega) (by omega) hl hf
set_option maxHeartbeats 1000000 in
set_option maxRecDepth 100000 in
theorem append_nil (w : World) (t : Int) : Calls Tryz.prog 55 #[nilp, .int .u64 t] w fun e w' => e = .returned (.int .i64 1) ∧ w' = w := by
  go_enter Tryz.func55, Tryz.ntmps55
  go_wp2
  go_ret
  exact ⟨rfl, rfl⟩
set_option maxHeartbeats 1000000 in
set_option maxRecDepth 100000 in
theorem append_at (h : LAt w Q b n s) (ok : Ok s) (hn : n < 10000) {t : Int} (ht : U64 t) :
    Calls Tryz.prog 55 #[lp Q, .int .u64 t] w fun e w' => e = .returned (.int .i64 (appE s t)) ∧ LAt w' Q b (n + 1) (appS s t) ∧ Kept (LF Q b) w w' := by
  have H : Hid (LAt w Q b n s) := h
  have c3 := h.c3
  have hr := h.mp.run_look ht
  cases e : look t s.L with
  | none =>
    rw [e] at hr
    simp only [Option.getD_none, Option.isSome_none] at hr
    have HE : Hid (appE s t = 110 ∧ appS s t = s) := ⟨by simp [appE, e], by simp [appS, e]⟩
    clear h ok
    go_enter Tryz.func55, Tryz.ntmps55
    go_wp2
    go_ret
    rw [HE.out.1, HE.out.2]
    exact ⟨rfl, H.out.mono (Nat.le_succ _), Kept.refl _ _⟩
  | some v =>
    rw [e] at hr
    simp only [Option.getD_some, Option.isSome_some] at hr
    by_cases hv : v = 0
    · subst hv
      have HE : Hid (appE s t = 120 ∧ appS s t = s) := ⟨by simp [appE, e], by simp [appS, e]⟩
      clear h ok
      go_enter Tryz.func55, Tryz.ntmps55
      go_wp2
      go_ret
      rw [HE.out.1, HE.out.2]
      exact ⟨rfl, H.out.mono (Nat.le_succ _), Kept.refl _ _⟩
    · have HE : Hid (appE s t = 0 ∧ appS s t = { s with used := s.used + 1, L := set t (v - 1) s.L }) := ⟨by simp [appE, e, hv], by simp [appS, e, hv]⟩
      obtain ⟨n1, n2, n3, n4, n5⟩ := ok.nums
      have hle := look_le ok.fine e
      have hv2 : (v == 0) = false := by simpa using hv
      have HT : Hid (total (set t (v - 1) s.L) = total s.L - 1) := by have := total_set (v := v - 1) e; show _ = _; omega
      obtain ⟨w2, hu, hm, hk⟩ := h.mp.run_put (L' := set t (v - 1) s.L) (v := v - 1) hn ht (i64_wf (by omega) (by omega)) (fun u => look_set e)
      have hs2 : Hid (w2.heap[Q]? = some (.cells #[.int .i64 s.cap, .int .i64 s.mark, .int .i64 s.used, .map (some b), .int .i64 (total s.L)] 102 (0, 0))) := (hk.block Q h.lt (fun e => h.ne e.symm)).trans h.st
      have H2 : Hid (Mp w2 b (n + 1) (set t (v - 1) s.L) ∧ Kept (· = b) w w2) := ⟨hm, hk⟩
      obtain ⟨_, _, e2, _, e4, ef⟩ := five hs2.out
      have e4f := ef 4
      have e2f := ef 2
      clear h ok hm hk ef hv e
      generalize s.used = us at *
      generalize total s.L = tl at *
      go_enter Tryz.func55, Tryz.ntmps55
      go_wp2
      go_ret
      rw [HE.out.1, HE.out.2]
      refine ⟨rfl, ⟨?_, (H2.out.1.kept ((Kept.setCell Q 4 _).block b H2.out.1.lt H.out.ne)).kept ((Kept.setCell Q 2 _).block b (by have := H2.out.1.lt; simpa using this) H.out.ne)⟩, ((H2.out.2.wider fun x _ e => .inr e).trans (Kept.setCell Q 4 _) fun x _ e => .inl e).trans (Kept.setCell Q 2 _) fun x _ e => .inl e⟩
      rw [st_set 2 _ (st_set 4 _ hs2.out), HT.out]
      rfl
set_option maxHeartbeats 1000000 in
set_option maxRecDepth 100000 in
theorem close_nil (w : World) (t : Int) : Calls Tryz.prog 75 #[nilp, .int .u64 t] w fun e w' => e = .returned (.int .i64 1) ∧ w' = w := by
  go_enter Tryz.func75, Tryz.ntmps75
  go_wp2
  go_ret
  exact ⟨rfl, rfl⟩
theorem wpList_delete_mp {ops : Array Oper} {rest : List Oper} {o : Oper} {a : Act} {R : Exit → Act → World → Prop} (hg : o.guard = none) (m x : Operand) (hop : o.op = Op.call { callee := Callee.builtin Builtin.delete, args := #[m, x], argTypes := #[100, 44] })
    (L L' : List (Int × Int)) (hm : a.eval m = .map (some b)) (h : Mp w b n L) (t : Int) (ht : U64 t) (hx : a.eval x = .int .u64 t) (hL : ∀ u, look u L' = if u = t then none else look u L)
    (hK : ∀ w', Mp w' b n L' → Kept (· = b) w w' → wpList Tryz.prog ops R rest (a.put o.dst (.tuple #[])) w') :
    wpList Tryz.prog ops R (o :: rest) a w := by
  refine wpList_plain hg fun K' hK' => ?_
  obtain ⟨w', hrun, r1, r2⟩ := h.run_del ht hL o.type
  unfold Oper.wp
  simp [execOp, hop, resolve, invoke, builtin, hm, hx, hrun, Result.andThen]
  exact hK' _ _ (hK w' r1 r2)
set_option maxHeartbeats 1000000 in
set_option maxRecDepth 100000 in
theorem close_at (h : LAt w Q b n s) (ok : Ok s) {t : Int} (ht : U64 t) :
    Calls Tryz.prog 75 #[lp Q, .int .u64 t] w fun e w' => e = .returned (.int .i64 (clsE s t)) ∧ LAt w' Q b (n + 1) (clsS s t) ∧ Kept (LF Q b) w w' := by
  have H : Hid (LAt w Q b n s) := h
  have c3 := h.c3
  have hr := h.mp.run_look ht
  cases e : look t s.L with
  | none =>
    rw [e] at hr
    simp only [Option.getD_none, Option.isSome_none] at hr
    have HE : Hid (clsE s t = 110 ∧ clsS s t = s) := ⟨by simp [clsE, e], by simp [clsS, cut_none e]⟩
    clear h ok
    go_enter Tryz.func75, Tryz.ntmps75
    go_wp2
    go_ret
    rw [HE.out.1, HE.out.2]
    exact ⟨rfl, H.out.mono (Nat.le_succ _), Kept.refl _ _⟩
  | some v =>
    rw [e] at hr
    simp only [Option.getD_some, Option.isSome_some] at hr
    have HE : Hid (clsE s t = 0) := by show _ = _; simp [clsE, e]
    obtain ⟨n1, n2, n3, n4, n5⟩ := ok.nums
    have hle := look_le ok.fine e
    have HT : Hid (total (cut t s.L) = total s.L - v) := total_cut e
    have hcut : Hid (∀ u, look u (cut t s.L) = if u = t then none else look u s.L) := fun u => look_cut ok.fine
    clear h ok e
    go_enter Tryz.func75, Tryz.ntmps75
    go_wp2_with (at_delete; refine wpList_delete_mp rfl (.tmp 23) (.tmp 24) rfl s.L (cut t s.L) rfl H.out.mp t ht rfl hcut.out ?_; intro w2 hm hk; have hs2 : Hid (w2.heap[Q]? = some (.cells #[.int .i64 s.cap, .int .i64 s.mark, .int .i64 s.used, .map (some b), .int .i64 (total s.L)] 102 (0, 0))) := (hk.block Q H.out.lt (fun e => H.out.ne e.symm)).trans H.out.st; have H2 : Hid (Mp w2 b n (cut t s.L) ∧ Kept (· = b) w w2) := ⟨hm, hk⟩; have e4 := (five hs2.out).2.2.2.2.1; have e4f := (five hs2.out).2.2.2.2.2 4; clear hm hk hr c3)
    go_ret
    rw [HE.out]
    refine ⟨rfl, ⟨?_, (H2.out.1.kept ((Kept.setCell Q 4 _).block b H2.out.1.lt H.out.ne)).mono (Nat.le_succ _)⟩, ((H2.out.2.wider fun x _ e => .inr e).trans (Kept.setCell Q 4 _) fun x _ e => .inl e)⟩
    rw [st_set 4 _ hs2.out]
    show _ = some (Obj.cells #[.int .i64 s.cap, .int .i64 s.mark, .int .i64 s.used, .map (some b), .int .i64 (total (cut t s.L))] 102 (0, 0))
    rw [HT.out]
    rfl
set_option maxHeartbeats 1000000 in
set_option maxRecDepth 100000 in
theorem free_nil (w : World) (k : Int) : Calls Tryz.prog 65 #[nilp, .int .i64 k] w fun e w' => e = .returned (.int .i64 1) ∧ w' = w := by
  go_enter Tryz.func65, Tryz.ntmps65
  go_wp2
  go_ret
  exact ⟨rfl, rfl⟩
set_option maxHeartbeats 1000000 in
set_option maxRecDepth 100000 in
theorem free_at (h : LAt w Q b n s) (ok : Ok s) (k : Int) :
    Calls Tryz.prog 65 #[lp Q, .int .i64 k] w fun e w' => e = .returned (.int .i64 (freE s k)) ∧ LAt w' Q b (n + 1) (freS s k) ∧ Kept (LF Q b) w w' := by
  have H : Hid (LAt w Q b n s) := h
  have c2 := h.c2
  have f2 := h.free 2
  obtain ⟨n1, n2, n3, n4, n5⟩ := ok.nums
  by_cases hk : 0 ≤ k ∧ k ≤ s.used
  · have HE : Hid (freE s k = 0 ∧ freS s k = { s with used := s.used - k }) := ⟨if_pos hk, if_pos hk⟩
    obtain ⟨k1, k2⟩ := hk
    clear h ok
    generalize s.used = us at *
    go_enter Tryz.func65, Tryz.ntmps65
    go_wp2
    go_ret
    rw [HE.out.1, HE.out.2]
    refine ⟨rfl, ⟨?_, (H.out.mp.kept ((Kept.setCell Q 2 _).block b H.out.mp.lt H.out.ne)).mono (Nat.le_succ _)⟩, (Kept.setCell Q 2 _).wider fun x _ e => .inl e⟩
    rw [st_set 2 _ H.out.st]
    rfl
  · have HE : Hid (freE s k = 2 ∧ freS s k = s) := ⟨if_neg hk, if_neg hk⟩
    clear h ok
    generalize s.used = us at *
    by_cases k1 : k < 0
    · go_enter Tryz.func65, Tryz.ntmps65
      go_wp2
      go_ret
      rw [HE.out.1, HE.out.2]
      exact ⟨rfl, H.out.mono (Nat.le_succ _), Kept.refl _ _⟩
    · have k2 : us < k := by omega
      clear hk
      go_enter Tryz.func65, Tryz.ntmps65
      go_wp2
      go_ret
      rw [HE.out.1, HE.out.2]
      exact ⟨rfl, H.out.mono (Nat.le_succ _), Kept.refl _ _⟩
set_option maxHeartbeats 1000000 in
set_option maxRecDepth 100000 in
theorem copy_nil (w : World) : Calls Tryz.prog 26 #[nilp] w fun e w' => e = .returned nilp ∧ w' = w := by
  go_enter Tryz.func26, Tryz.ntmps26
  go_wp2
  go_ret
  exact ⟨rfl, rfl⟩
end
end Go.Proofs.YtnbegddpgmejnaaGreat.L
