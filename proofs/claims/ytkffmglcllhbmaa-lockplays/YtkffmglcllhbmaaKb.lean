/-
  Layer 14: rises, hasBlock, held, claimOf, Next.
-/
import Derived.Test.YtkffmglcllhbmaaKa
import Derived.Test.YtkffmglcllhbmaaTd
import Derived.Laws.ResultCell
namespace Go.Proofs.Ytkffmglcllhbmaa
open Go.RowKit


theorem up_adj : ∀ (l : List Int), (∀ j, j + 1 < l.length → l.getD j 0 < l.getD (j + 1) 0) → l.Pairwise (· < ·)
  | [], _ => List.Pairwise.nil
  | [x], _ => List.pairwise_singleton _ _
  | x :: y :: r, h => by
    have h1 := up_adj (y :: r) (fun j hj => by have := h (j + 1) (by simp at hj ⊢; omega); simpa using this)
    have h2 : x < y := by have := h 0 (by simp); simpa using this
    refine List.pairwise_cons.2 ⟨fun z hz => ?_, h1⟩
    rcases List.mem_cons.1 hz with e | e
    · omega
    · have := (List.pairwise_cons.1 h1).1 z e; omega
theorem adj_up {l : List Int} (h : l.Pairwise (· < ·)) {j : Nat} (hj : j + 1 < l.length) : l.getD j 0 < l.getD (j + 1) 0 := B.Up.adj h j hj
theorem adj_step {xs : List Int} {k : Nat} (h : ∀ j, j + 1 < k → xs.getD j 0 < xs.getD (j + 1) 0) (hx : xs.getD (k - 1) 0 < xs.getD k 0) : ∀ j, j + 1 < k + 1 → xs.getD j 0 < xs.getD (j + 1) 0 := by
  intro j hj
  by_cases e : j + 1 = k
  · subst e; simpa using hx
  · exact h j (by omega)
set_option maxHeartbeats 1000000 in
set_option maxRecDepth 100000 in
theorem rises_is (p : Option Addr) (n c : Nat) (xs : List Int) (w : World) (h : B.IIn w p n xs) (hn : n ≤ 140737488355328) :
    Calls Try.prog 41 #[.slice p n c] w fun e w' => e = .returned (.bool (risS xs)) ∧ ∃ m, w' = w.drewN m := by
  have HH : Hid (B.IIn w p n xs) := h
  clear h
  go_enter Try.func41, Try.ntmps41
  go_wp2
  go_loopw [3] (fun i wr => ∃ k : Nat, (k ≤ n ∨ k = 1) ∧ 1 ≤ k ∧ i = .int .i64 k ∧ Hid (∀ j, j + 1 < k → xs.getD j 0 < xs.getD (j + 1) 0) ∧ Hid (∃ nq, wr = w.drewN nq)) (fun i _ => n - (intOf i).toNat)
  case atStart => exact ⟨1, .inr rfl, Nat.le_refl _, rfl, fun j hj => absurd hj (by omega), 0, rfl⟩
  case round =>
    obtain ⟨k, hk, hk1, rfl, HT, HW⟩ := hrel
    by_cases hlt : k < n
    · have hlen := HH.out.len
      obtain ⟨b, o, rfl, hcs⟩ := HH.out.cells (by omega)
      have hwc : ∀ a : Addr, wr.cell? a = w.cell? a := fun a => by obtain ⟨nq, rfl⟩ := HW.out; rfl
      have c1 : wr.cell? ⟨b, o + k, none⟩ = some (.int .i64 (xs.getD k 0)) := (hwc _).trans (hcs k hlt)
      have c2 : wr.cell? ⟨b, o + (k - 1), none⟩ = some (.int .i64 (xs.getD (k - 1) 0)) := (hwc _).trans (hcs (k - 1) (by omega))
      have d1 : wr.drew.cell? ⟨b, o + k, none⟩ = some (.int .i64 (xs.getD k 0)) := c1
      have d2 : wr.drew.cell? ⟨b, o + (k - 1), none⟩ = some (.int .i64 (xs.getD (k - 1) 0)) := c2
      have HN : Hid (xs.getD (k - 1) 0 < xs.getD k 0 → ∀ j, j + 1 < k + 1 → xs.getD j 0 < xs.getD (j + 1) 0) := fun e => adj_step HT.out e
      have HY : Hid (¬ xs.getD (k - 1) 0 < xs.getD k 0 → risS xs = false) := fun e => decide_eq_false fun hp => e (by have := adj_up hp (j := k - 1) (by omega); rwa [show k - 1 + 1 = k by omega] at this)
      have i1 : (k : Int) < (n : Int) := by omega
      have i2 : IntKind.i64.wrap ((k : Int) - 1) = ((k - 1 : Nat) : Int) := by rw [IntKind.wrap_i64]; omega
      have i3 : ((k - 1 : Nat) : Int) < (n : Int) := by omega
      clear hcs hlen HH HT hwc hk
      generalize xs.getD k 0 = x at *
      generalize xs.getD (k - 1) 0 = y at *
      generalize hkk : k - 1 = k' at *
      by_cases hx : x ≤ y
      · have E : Hid (risS xs = false) := HY.out (by omega)
        clear HN HY
        have hd := decide_eq_true hx
        go_wp2
        go_quiet (fail)
        go_wp2
        go_ret
        exact ⟨by rw [E.out]; rfl, by obtain ⟨nq, rfl⟩ := HW.out; exact ⟨_, World.drewN_drewN _ _ _⟩⟩
      · have E : Hid (∀ j, j + 1 < k + 1 → xs.getD j 0 < xs.getD (j + 1) 0) := HN.out (by omega)
        clear HN HY
        have hd := decide_eq_false hx
        have HW2 : Hid (∀ m, ∃ nq, wr.drewN m = w.drewN nq) := fun m => by obtain ⟨nq, rfl⟩ := HW.out; exact ⟨_, World.drewN_drewN _ _ m⟩
        go_wp2
        go_quiet (fail)
        go_wp2
        go_roundw
        case rel => exact ⟨k + 1, .inl (by omega), by omega, by go_num, E, HW2.out _⟩
        case measure => simp [intOf]; omega
    · have E : Hid (risS xs = true) := decide_eq_true (up_adj xs fun j hj => HT.out j (by have := HH.out.len; omega))
      go_wp2
      go_ret
      exact ⟨by rw [E.out]; rfl, HW.out⟩
section
variable {w : World} {F : Ft} {n : Nat} {a : Lk}
/-- is it a block -/
def isB (a : Lk) (b : Int) : Bool := decide (0 ≤ b ∧ b < a.bl)
set_option maxHeartbeats 1000000 in
set_option maxRecDepth 100000 in
theorem hasBlock_at (h : PL w F n a) (b : Int) : Calls Try.prog 42 #[qp F.Q, .int .i64 b] w fun e w' => e = .returned (.bool (isB a b)) ∧ w = w' := by
  have c0 : w.cell? ⟨F.Q, 0, none⟩ = some (.slice (some ⟨F.qb, 0, none⟩) a.bl a.bl) := h.c 0
  clear h
  by_cases h0 : 0 ≤ b
  · by_cases h1 : b < a.bl
    · have E : Hid (isB a b = true) := decide_eq_true ⟨h0, h1⟩
      go_enter Try.func42, Try.ntmps42
      go_wp2
      go_ret
      exact ⟨by rw [E.out]; rfl, rfl⟩
    · have E : Hid (isB a b = false) := decide_eq_false (by omega)
      go_enter Try.func42, Try.ntmps42
      go_wp2
      go_ret
      exact ⟨by rw [E.out]; rfl, rfl⟩
  · have E : Hid (isB a b = false) := decide_eq_false (by omega)
    go_enter Try.func42, Try.ntmps42
    go_wp2
    go_ret
    exact ⟨by rw [E.out]; rfl, rfl⟩
set_option maxHeartbeats 1000000 in
set_option maxRecDepth 100000 in
theorem held_is (w : World) (p : Option Addr) (k c d : Nat) (hd : d ≤ c) : Calls Try.prog 39 #[cv (.slice p k c) d] w fun e w' => e = .returned (.slice p d c) ∧ Below w.heap.size w w' := by
  have i1 : (d : Int) ≤ (c : Int) := by omega
  go_enter Try.func39, Try.ntmps39
  go_wp2
  go_ret
  exact ⟨rfl, below_alloc _ _⟩

theorem size_claim : (Try.prog.info? 75).map (·.size) = some 2 := by kernel_rfl
theorem results_claim {fn : Func} {p u : Tmp} (h : fn.results = #[.cell p 75, .tmp u]) (tmps : Array Value) (w : World) (g : Nat) (x y : Value) (hp : tmps.getD p undef = .pointer (some ⟨g, 0, none⟩)) (h0 : w.cell? ⟨g, 0, none⟩ = some x) (h1 : w.cell? ⟨g, 1, none⟩ = some y) :
    (results fn tmps).run Try.prog w = .ok (.tuple #[.agg #[x, y], tmps.getD u undef]) w := by
  have hr : w.rangeAt g 0 [x, y] := fun j v hv => by
    match j with
    | 0 => simp at hv; subst hv; exact h0
    | 1 => simp at hv; subst hv; exact h1
    | j + 2 => simp at hv
  rw [results_cell_tmp h, hp]
  simp only [asAddr, Sem.run_pure, Result.andThen_ok, run_loadVar_mid w g 0 75 [x, y] _ hr Try.underlying75 rfl (by rw [size_claim]; rfl)]
/-- a block of two cells, just laid -/
theorem two_new (w : World) (x y : Value) (ty : TypeId) : (w.alloc (.cells #[x, y] ty)).cell? ⟨w.heap.size, 0, none⟩ = some x ∧ (w.alloc (.cells #[x, y] ty)).cell? ⟨w.heap.size, 1, none⟩ = some y := by
  have h := heap_alloc_new w (.cells #[x, y] ty)
  exact ⟨by rw [cell_of_row _ w.heap.size 0 _ ty (0, 0) h]; rfl, by rw [cell_of_row _ w.heap.size 1 _ ty (0, 0) h]; rfl⟩
set_option maxHeartbeats 1000000 in
set_option maxRecDepth 100000 in
theorem claimOf_nil (w : World) (t : Int) : Calls Try.prog 35 #[nilq, .int .u64 t] w fun e w' => e = .returned (.tuple #[noC, .bool false]) ∧ Below w.heap.size w w' := by
  go_enter Try.func35, Try.ntmps35
  go_wp2
  exact bodyPost_ret (results_claim rfl _ _ w.heap.size _ _ rfl (two_new w _ _ _).1 (two_new w _ _ _).2) rfl ⟨rfl, below_alloc _ _⟩
set_option maxHeartbeats 1000000 in
set_option maxRecDepth 100000 in
theorem claimOf_at (h : PL w F n a) {t : Int} (ht : U64 t) : Calls Try.prog 35 #[qp F.Q, .int .u64 t] w fun e w' => ∃ p c, e = .returned (.tuple #[cv (.slice p (ent a.L t).s.length c) (ent a.L t).d, .bool (isIn a.L t)]) ∧ Frm w' (.slice p (ent a.L t).s.length c) (ent a.L t).s ∧ (∀ g, blk (.slice p (ent a.L t).s.length c) = some g → F.G g) ∧ Below w.heap.size w w' := by
  obtain ⟨p, c, e1, e2, e3, e4⟩ := h.cm.ent ht
  have hlk : ∀ o, (Instr.lookup 81 (.map (some F.mb)) (.int .u64 t) true).run Try.prog (w.alloc o) = .ok (.tuple #[cv (.slice p (ent a.L t).s.length c) (ent a.L t).d, .bool (isIn a.L t)]) (w.alloc o) := fun o => by
    have := (h.cm.mp.kept (w' := w.alloc o) ((below_alloc w o).block _ h.cm.mp.lt)).run_look ht
    rw [e1, e2] at this
    exact this
  have c2 : w.cell? ⟨F.Q, 2, none⟩ = some (.map (some F.mb)) := h.c 2
  have HF : Hid (Frm w (.slice p (ent a.L t).s.length c) (ent a.L t).s ∧ (∀ g, blk (.slice p (ent a.L t).s.length c) = some g → F.G g)) := ⟨e3, e4⟩
  have hlt : F.Q < w.heap.size := h.lt (.inl rfl)
  clear h e1 e2 e3 e4
  generalize (ent a.L t).s.length = k at *
  generalize (ent a.L t).d = d at *
  go_enter Try.func35, Try.ntmps35
  go_wp2
  have hb := below_alloc (w.alloc (.cells #[.slice p k c, .int .i64 d] 75)) (.cells #[.slice p k c, .int .i64 d] 75)
  have ht := two_new w (.slice p k c) (.int .i64 d) 75
  refine bodyPost_ret (results_claim rfl _ _ w.heap.size (.slice p k c) (.int .i64 d) rfl ((hb.cell (p := ⟨w.heap.size, 0, none⟩) (by simp)).trans ht.1) ((hb.cell (p := ⟨w.heap.size, 1, none⟩) (by simp)).trans ht.2)) rfl ?_
  exact ⟨p, c, rfl, (HF.out.1.later (below_alloc _ _)).later hb, HF.out.2, below_then (below_alloc _ _) hb⟩

theorem ent_nx {e : En} : B.nextS e.s (e.d : Int) = (e.nx, e.nxB) := by
  unfold B.nextS En.nx En.nxB
  by_cases h : e.d < e.s.length
  · rw [if_pos (by omega), if_pos h, decide_eq_true h]; simp
  · rw [if_neg (by omega), if_neg h, decide_eq_false h]
set_option maxHeartbeats 1000000 in
set_option maxRecDepth 100000 in
theorem next_at (h : PL w F n a) {t : Int} (ht : U64 t) : Calls Try.prog 23 #[qp F.Q, .int .u64 t] w fun e w' => e = .returned (.tuple #[.int .i64 (ent a.L t).nx, .bool (ent a.L t).nxB]) ∧ Below w.heap.size w w' := by
  have HE : Hid (B.nextS (ent a.L t).s ((ent a.L t).d : Int) = ((ent a.L t).nx, (ent a.L t).nxB)) := ent_nx
  go_enter Try.func23, Try.ntmps23
  go_wp2_with (first
    | (go_at_call 35; refine (claimOf_at h ht).mono ?_; rintro e w1 ⟨p, c, rfl, h1, _, h2⟩; have H1 : Hid (Frm w1 (.slice p (ent a.L t).s.length c) (ent a.L t).s ∧ Below w.heap.size w w1) := ⟨h1, h2⟩; clear h1 h2 h)
    | (go_at_call 36; obtain ⟨p', c', e', hI, _, _⟩ := H1.out.1.read; simp only [Value.slice.injEq] at e'; obtain ⟨rfl, _, rfl⟩ := e'; refine (B.next_is _ _ _ (ent a.L t).s _ _ (hI.later (below_alloc _ _))).mono ?_; rw [HE.out]; rintro e w2 ⟨rfl, rfl⟩; clear hI))
  go_ret2
  exact ⟨rfl, below_then H1.out.2 (below_alloc _ _)⟩
set_option maxHeartbeats 1000000 in
set_option maxRecDepth 100000 in
theorem next_nil (w : World) (t : Int) : Calls Try.prog 23 #[nilq, .int .u64 t] w fun e w' => e = .returned (.tuple #[.int .i64 0, .bool false]) ∧ Below w.heap.size w w' := by
  go_enter Try.func23, Try.ntmps23
  go_wp2_with (first
    | (go_at_call 35; refine (claimOf_nil w t).mono ?_; rintro e w1 ⟨rfl, h2⟩; have H1 : Hid (Below w.heap.size w w1) := h2; clear h2)
    | (go_at_call 36; refine (B.next_is _ _ _ [] _ _ (B.IIn.nil _ _)).mono ?_; rintro e w2 ⟨rfl, rfl⟩))
  go_ret2
  exact ⟨rfl, below_then H1.out (below_alloc _ _)⟩
end
end Go.Proofs.Ytkffmglcllhbmaa
