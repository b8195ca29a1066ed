/-
  Layer 14: a queue gone through: standing, first, Ready, Queue.
-/
import Derived.Test.YtkffmglcllhbmaaKb
import Derived.Test.YtkffmglcllhbmaaVa
import Derived.Test.YtkffmglcllhbmaaTc
namespace Go.Proofs.Ytkffmglcllhbmaa
open Go.RowKit


open Go.Shelf
attribute [local go_sem] Oper.semAt_some
/-- what standing hands back: a sequence of these tickets -/
def Std (w : World) (l : Value) (b : Int) (zs : List Int) : Prop := ∀ w1, Below w.heap.size w w1 → Calls Try.prog 37 #[l, .int .i64 b] w1 fun e w' => ∃ gf lb, e = .returned (.func (.func gf) #[] lb) ∧
  (∀ args w, (callFunc gf args).run Try.prog w = .ok (.enter gf args) w) ∧ Below w1.heap.size w1 w' ∧
  SeqStopsK Fence.wide 8 Try.prog gf lb (fun x : Int => #[Value.int .u64 x]) (Below w.heap.size) (fun ys => ys = zs) (fun pre => pre <+: zs) zs.length w'
theorem none_stops (n₀ : Nat) (w : World) : SeqStopsK Fence.wide 8 Try.prog 53 #[] (fun x : Int => #[Value.int .u64 x]) (Below n₀) (fun ys => ys = []) (fun pre => pre <+: ([] : List Int)) 0 w := fun l J Jx W hW _ _ hY h0 => by
  refine callsIn_of_wp Try.func53 rfl trivial ?_ rfl
  simp only [Try.ntmps53, List.size_toArray, List.length_cons, List.length_nil, Nat.reduceAdd, Nat.reduceSub, Array.replicate_succ, Array.replicate_zero, List.push_toArray, List.append_toArray, List.nil_append, List.cons_append]
  gi_wp2
  go_end0
  exact ⟨⟨_, rfl⟩, .inl h0⟩
set_option maxHeartbeats 1000000 in
set_option maxRecDepth 100000 in
theorem std_nil (w : World) (b : Int) : Std w nilq b [] := fun w1 _ => by
  go_enter Try.func37, Try.ntmps37
  go_wp2
  go_ret
  exact ⟨53, #[], rfl, enters_of Try.func53 (by kernel_rfl) rfl, Below.refl _ _, none_stops _ _⟩
section
variable {w : World} {F : Ft} {n : Nat} {a : Lk}
set_option maxHeartbeats 1000000 in
set_option maxRecDepth 100000 in
theorem std_at (h : PL w F n a) (hn : n ≤ 10000) (b : Int) : Std w (qp F.Q) b (qS a.L b) := fun w1 hb1 => by
  have h1 := h.later hb1
  cases hB : isB a b with
  | false =>
    have hz : qS a.L b = [] := h.ok.qout (by simpa [isB] using hB)
    rw [hz]
    go_enter Try.func37, Try.ntmps37
    go_wp2_with (go_at_call 42; refine (hasBlock_at h1 b).mono ?_; rw [hB]; rintro e w' ⟨rfl, rfl⟩)
    go_ret
    exact ⟨53, #[], rfl, enters_of Try.func53 (by kernel_rfl) rfl, Below.refl _ _, none_stops _ _⟩
  | true =>
    have hb : 0 ≤ b ∧ b < a.bl := by simpa [isB] using hB
    obtain ⟨i, rfl⟩ : ∃ i : Nat, b = (i : Int) := ⟨b.toNat, by omega⟩
    have hi : i < a.bl := by omega
    have H1 : Hid (PL w1 F n a) := h1
    have H : Hid (PL w F n a) := h
    have HB1 : Hid (Below w.heap.size w w1) := hb1
    have c0 : w1.cell? ⟨F.Q, 0, none⟩ = some (.slice (some ⟨F.qb, 0, none⟩) a.bl a.bl) := h1.c 0
    have ci : w1.cell? ⟨F.qb, i, none⟩ = some (qp (F.q i)) := h1.cq hi
    have hl : Hid ((qS a.L i).length ≤ 100000) := by
      have h2 := (qS_sub a.L i).length_le
      have h3 : (tix a.L).length = a.L.length := by simp [tix]
      have h4 := h.len
      show _ ≤ _
      omega
    clear h h1 hb1 hb
    go_enter Try.func37, Try.ntmps37
    go_wp2_with (first | (go_at_call 42; refine (hasBlock_at H1.out _).mono ?_; rw [hB]; rintro e w' ⟨rfl, rfl⟩) | (go_at_call 54; refine (all_is _ _).mono ?_; rintro e w' ⟨rfl, rfl⟩))
    go_ret
    obtain ⟨m, _, hq⟩ := H.out.lq i hi
    refine ⟨69, _, rfl, enters_of Try.func69 (by kernel_rfl) rfl, below_alloc _ _, ?_⟩
    have hs := HB1.out.size
    exact all_stops Fence.wide 8 trivial rfl (by decide) w1.heap.size w.heap.size (some ⟨F.q i, 0, none⟩) (qS a.L i) hl.out _ w (by simp) (by simp; omega) (HB1.out.trans ((below_alloc w1 _).mono hs)) rfl (Boxed.cell (Boxed.new w1 80 (qp (F.q i)))) (.inr ⟨F.q i, F.v i, m, rfl, hq⟩)
end
set_option maxRecDepth 100000 in
set_option maxHeartbeats 4000000 in
theorem first_std {w : World} {l : Option Addr} {b : Int} {zs : List Int} (h : Std w (.pointer l) b zs) : Calls Try.prog 34 #[.pointer l, .int .i64 b] w fun e w' => e = .returned (.int .u64 (hdv zs)) ∧ Below w.heap.size w w' := by
  refine (callsIn_wide (n := 9)).1 ?_
  refine callsIn_of_wp_marks Try.func34 rfl trivial ?_ rfl
  simp only [Try.ntmps34, List.size_toArray, List.length_cons, List.length_nil, Nat.reduceAdd, Nat.reduceSub, Array.replicate_succ, Array.replicate_zero, List.push_toArray, List.append_toArray, List.nil_append, List.cons_append]
  gi_wp2_with (refine ⟨trivial, ?_⟩; gi_at_call 37; refine (callsIn_wide.2 (h _ (below_alloc w _))).mono ?_; rintro e W0 ⟨gf, lb, rfl, hen, hb, hseq⟩)
  have bX : Boxed W0 w.heap.size 30 (.int .u64 0) := (hb.block _ (by simp)).trans (Boxed.new w 30 (.int .u64 0))
  have hB0 : Below w.heap.size w W0 := below_then (below_alloc w _) hb
  have hsz : w.heap.size + 1 ≤ W0.heap.size := by have := hb.size; simp at this; omega
  clear hb
  refine wpIn_rangeFunc_ownG (F := Fence.wide) (n := 9) (P := Try.prog) rfl (by decide) (gf := gf) (lb := lb) rfl trivial hen
    hseq belowK_t (belowK_b (by omega)) (Below.refl _ _) (fun _ => rfl)
    (fun pre W => (pre = [] ∧ Boxed W w.heap.size 30 (.int .u64 0)) ∧ Below w.heap.size w W)
    (fun c pre W => (c = .ret ∧ ∃ x, pre = [x] ∧ Boxed W w.heap.size 30 (.int .u64 x)) ∧ Below w.heap.size w W)
    ?hI ?hIx ⟨⟨rfl, bX⟩, hB0⟩
    (fun x => { tmps := #[.pointer l, .int .i64 b, undef, undef, .pointer (some ⟨w.heap.size, 0, none⟩), .int .u64 x, .pointer l, .int .i64 b, .func (.func gf) #[] lb, .int .u64 x, undef], defers := [] }) ?assign ?body ?done ?stop
  case hI => exact OwnFrom.and (OwnFrom.and (ownFrom_pure _ _) (Own.from (boxed_own _ _ _) _)) (ownFrom_below (Nat.le_refl _) (by omega))
  case hIx =>
    intro c
    refine OwnFrom.and (fun s V V' row hs hg hr => ?_) (ownFrom_below (Nat.le_refl _) (by omega))
    obtain ⟨hc, x, h1, h2⟩ := hs
    exact ⟨hc, x, h1, boxed_own w.heap.size 30 (fun (_ : Unit) => Value.int .u64 x) () V V' row h2 hg (fun r e => (hr r e).2)⟩
  case assign =>
    intro l x W K hK
    gi_wp2
    exact hK
  case body =>
    rintro l1 pre x W ⟨⟨rfl, hX⟩, hBW⟩ hlt
    have cX := hX.cell
    have fX := hX.frozen
    have HB : Hid (Below w.heap.size w W) := hBW
    have HX : Hid (Boxed W w.heap.size 30 (.int .u64 0)) := hX
    clear hX hBW
    gi_wp2
    exact ⟨(KeepsOthers.setCell _ _ _).from _, ⟨rfl, x, rfl, HX.out.set _⟩, HB.out.setCell (p := ⟨w.heap.size, 0, none⟩) (by simp) _⟩
  case done =>
    rintro D ys W hD hSt ⟨⟨rfl, hX⟩, hB1⟩ hK
    subst hSt
    have cX := hX.cell
    have fX := hX.frozen
    gi_wp2
    have hK2 : (W.setCell ⟨w.heap.size, 0, none⟩ (.int .u64 0)).heap[D]? = some (.deferred (some [])) := (Below.heap_setCell _ _ _ _ (by show D ≠ w.heap.size; omega)).trans hK
    refine ⟨by simp, .inl ⟨_, _, rfl, run_takeDeferred hK2, ?_⟩⟩
    have b2 : Boxed ((W.setCell ⟨w.heap.size, 0, none⟩ (.int .u64 0)).putObj D (.deferred none)) w.heap.size 30 (.int .u64 0) := (World.putObj_heap_other (by omega)).trans (hX.set _)
    exact ⟨_, results_one rfl Try.underlying30 rfl _ _ w.heap.size _ rfl b2.cell, rfl, (hB1.setCell (p := ⟨w.heap.size, 0, none⟩) (by simp) _).trans (belowK_b (w := w) (Nat.le_refl _) _ D _ _ (by omega) hK2 rfl rfl)⟩
  case stop =>
    rintro D c pre W hD hpre ⟨⟨rfl, x, rfl, hX⟩, hB1⟩ hK
    have hz : hdv zs = x := by
      obtain ⟨r, rfl⟩ := hpre
      rfl
    have HZ : Hid (hdv zs = x) := hz
    clear hz
    gi_wp2
    refine ⟨by simp, .inl ⟨_, _, rfl, run_takeDeferred hK, ?_⟩⟩
    have b2 : Boxed (W.putObj D (.deferred none)) w.heap.size 30 (.int .u64 x) := (World.putObj_heap_other (by omega)).trans hX
    exact ⟨_, results_one rfl Try.underlying30 rfl _ _ w.heap.size _ rfl b2.cell, by rw [HZ.out], hB1.trans (belowK_b (w := w) (Nat.le_refl _) W D _ _ (by omega) hK rfl rfl)⟩
/-- a list of tickets that a call has made -/
structure MadeU (w w' : World) (v : Value) (xs : List Int) : Prop where
  own : w'.ownsRow w.heap.size 30 1 v xs.length (V64 xs)
  below : Below w.heap.size w w'
theorem MadeU.read {w w' : World} {v : Value} {xs : List Int} (h : MadeU w w' v xs) : ∃ p c, v = .slice p xs.length c ∧ UIn w' p xs.length xs ∧ xs.length ≤ c ∧ (p = none → c = 0) := (Row.own h.own).1.form
set_option maxRecDepth 100000 in
set_option maxHeartbeats 4000000 in
theorem queue_std {w : World} {l : Option Addr} {b : Int} {zs : List Int} (h : Std w (.pointer l) b zs) (hn : zs.length ≤ 10000) : Calls Try.prog 14 #[.pointer l, .int .i64 b] w fun e w' => ∃ v', e = .returned v' ∧ MadeU w w' v' zs := by
  obtain ⟨i0, hi, hz0, hz1, hz2⟩ := info_parts info26
  refine (callsIn_wide (n := 9)).1 ?_
  refine callsIn_of_wp_marks Try.func14 rfl trivial ?_ rfl
  simp only [Try.ntmps14, List.size_toArray, List.length_cons, List.length_nil, Nat.reduceAdd, Nat.reduceSub, Array.replicate_succ, Array.replicate_zero, List.push_toArray, List.append_toArray, List.nil_append, List.cons_append]
  gi_wp2_with (refine ⟨trivial, ?_⟩; gi_at_call 37; refine (callsIn_wide.2 (h _ (below_alloc w _))).mono ?_; rintro e W0 ⟨gf, lb, rfl, hen, hb, hseq⟩)
  have bX : Boxed W0 w.heap.size 22 nils := (hb.block _ (by simp)).trans (Boxed.new w 22 nils)
  have hB0 : Below w.heap.size w W0 := below_then (below_alloc w _) hb
  have hsz : w.heap.size + 1 ≤ W0.heap.size := by have := hb.size; simp at this; omega
  clear hb
  refine wpIn_rangeFunc_ownG (F := Fence.wide) (n := 9) (P := Try.prog) rfl (by decide) (gf := gf) (lb := lb) rfl trivial hen
    hseq belowK_t (belowK_b (by omega)) (Below.refl _ _) (fun _ => rfl)
    (fun pre W => (∃ v, Boxed W w.heap.size 22 v ∧ W.ownsRow w.heap.size 30 1 v pre.length (V64 pre) ∧ True) ∧ Below w.heap.size w W) (fun c pre W => False)
    (OwnFrom.and (Own.from (holdsRow_own w.heap.size w.heap.size 22 30 1 (fun pre : List Int => pre.length) (fun pre : List Int => V64 pre) (fun _ _ => True)) _) (ownFrom_below (Nat.le_refl _) (by omega))) (fun c => ownFrom_pure _ _)
    ⟨⟨_, bX, World.ownsRow_nil _ _ _ _, trivial⟩, hB0⟩
    (fun x => { tmps := #[.pointer l, .int .i64 b, undef, undef, nils, .pointer (some ⟨w.heap.size, 0, none⟩), .int .u64 x, .pointer l, .int .i64 b, .func (.func gf) #[] lb, .int .u64 x, undef, undef, undef, undef, undef], defers := [] }) ?assign ?body ?done ?stop
  case assign =>
    intro l x W K hK
    gi_wp2
    exact hK
  case body =>
    rintro l pre x W ⟨⟨v, hv, hrow, _⟩, hB⟩ hlt
    have hc := hv.cell
    have hle := hB.size
    have hml : 10001 ≤ maxLen := by decide
    obtain ⟨pv, cv, rfl, _, _, _⟩ := (Row.own hrow).1.form
    gi_wp2_with (gi_at_builtin; refine wpListIn_append_own _ rfl _ _ 22 rfl w.heap.size 30 i0 (.int .u64 0) 1 8 Try.underlying22 hi hz0 hz1 hz2 rfl (by decide) _ _ _ rfl (hrow.alloc _) ⟨W.heap.size, 0, none⟩ 1 1 [.int .u64 x] rfl rfl (cell_one_new _ _ _) (by simp [Value.oneCell']) (by omega) (by omega) (by simp; omega) ?_; intro v' w1 hown' hgrow _; obtain ⟨g', cap', rfl⟩ := ownsRow_succ hown'; obtain ⟨hv1, hv2, hr2, hk2, hb2⟩ := hv.appended (by decide) hrow hle (Nat.le_refl _) hown' hgrow; have hc1 := hv1.cell; have hf1 := hv1.frozen; have hc2 := hv2.cell)
    rw [show V64 pre ++ [Value.int .u64 x] = V64 (pre ++ [x]) by simp [V64], show pre.length + 1 = (pre ++ [x]).length by simp] at hr2
    exact ⟨hk2.from _, hb2, ⟨_, hv2, by simpa using hr2, trivial⟩, hB.trans hb2⟩
  case done =>
    rintro D ys W hD hSt ⟨⟨v, hv, hrow, _⟩, hB⟩ hK
    subst hSt
    obtain ⟨pv, cv, rfl, _, _, _⟩ := (Row.own hrow).1.form
    have hc := hv.cell
    have HR : Hid (W.ownsRow w.heap.size 30 1 (.slice pv ys.length cv) ys.length (V64 ys)) := hrow
    have HB : Hid (Below w.heap.size w W) := hB
    clear hrow hB hv
    gi_wp2
    refine ⟨by simp, .inl ⟨_, _, rfl, run_takeDeferred hK, ?_⟩⟩
    exact ⟨_, by simp [results, Try.results14, go_sem], _, rfl, ownsRow_putObj HR.out (.deferred none) hK rfl, HB.out.trans (belowK_b (w := w) (Nat.le_refl _) _ D _ _ (by omega) hK rfl rfl)⟩
  case stop =>
    rintro D c pre W hD hpre hf hK
    exact hf.elim
section
variable {w : World} {F : Ft} {n : Nat} {a : Lk}
theorem first_at (h : PL w F n a) (hn : n ≤ 10000) (b : Int) : Calls Try.prog 34 #[qp F.Q, .int .i64 b] w fun e w' => e = .returned (.int .u64 (hdv (qS a.L b))) ∧ Below w.heap.size w w' := first_std (std_at h hn b)
theorem PL.qlen (h : PL w F n a) (b : Int) : (qS a.L b).length ≤ n := by
  have h2 := (qS_sub a.L b).length_le
  have h3 : (tix a.L).length = a.L.length := by simp [tix]
  have h4 := h.len
  omega
theorem queue_at (h : PL w F n a) (hn : n ≤ 10000) (b : Int) : Calls Try.prog 14 #[qp F.Q, .int .i64 b] w fun e w' => ∃ v', e = .returned v' ∧ MadeU w w' v' (qS a.L b) := queue_std (std_at h hn b) (by have := h.qlen b; omega)
theorem queue_nil (w : World) (b : Int) : Calls Try.prog 14 #[nilq, .int .i64 b] w fun e w' => ∃ v', e = .returned v' ∧ MadeU w w' v' [] := queue_std (std_nil w b) (Nat.zero_le _)
theorem first_nil (w : World) (b : Int) : Calls Try.prog 34 #[nilq, .int .i64 b] w fun e w' => e = .returned (.int .u64 0) ∧ Below w.heap.size w w' := first_std (std_nil w b)
set_option maxHeartbeats 1000000 in
set_option maxRecDepth 100000 in
theorem ready_at (h : PL w F n a) (hn : n ≤ 10000) {t : Int} (ht : U64 t) : Calls Try.prog 11 #[qp F.Q, .int .u64 t] w fun e w' => e = .returned (.bool (rdyS a.L t)) ∧ Below w.heap.size w w' := by
  have HE : Hid (rdyS a.L t = ((ent a.L t).nxB && (hdv (qS a.L (ent a.L t).nx) == t))) := rfl
  have H : Hid (PL w F n a) := h
  clear h
  cases hB : (ent a.L t).nxB with
  | false =>
    rw [hB] at HE
    go_enter Try.func11, Try.ntmps11
    go_wp2_with (go_at_call 23; refine (next_at H.out ht).mono ?_; rw [hB]; rintro e w1 ⟨rfl, h1⟩; have HB1 : Hid (Below w.heap.size w w1) := h1; clear h1)
    go_ret
    exact ⟨by rw [HE.out]; rfl, HB1.out⟩
  | true =>
    rw [hB] at HE
    have HE2 : Hid (rdyS a.L t = (hdv (qS a.L (ent a.L t).nx) == t)) := HE.out
    clear HE
    generalize hx : (hdv (qS a.L (ent a.L t).nx) == t) = y at *
    go_enter Try.func11, Try.ntmps11
    go_wp2_with (first
      | (go_at_call 23; refine (next_at H.out ht).mono ?_; rw [hB]; rintro e w1 ⟨rfl, h1⟩; have HB1 : Hid (Below w.heap.size w w1) := h1; clear h1)
      | (go_at_call 34; refine (first_at (H.out.later HB1.out) hn _).mono ?_; rintro e w2 ⟨rfl, h2⟩; have HB2 : Hid (Below w.heap.size w w2) := below_then HB1.out h2; clear h2))
    go_ret
    exact ⟨by rw [HE2.out]; rfl, HB2.out⟩
set_option maxHeartbeats 1000000 in
set_option maxRecDepth 100000 in
theorem ready_nil (w : World) (t : Int) : Calls Try.prog 11 #[nilq, .int .u64 t] w fun e w' => e = .returned (.bool false) ∧ Below w.heap.size w w' := by
  go_enter Try.func11, Try.ntmps11
  go_wp2_with (go_at_call 23; refine (next_nil w t).mono ?_; rintro e w1 ⟨rfl, h1⟩; have HB1 : Hid (Below w.heap.size w w1) := h1; clear h1)
  go_ret
  exact ⟨rfl, HB1.out⟩
end
end Go.Proofs.Ytkffmglcllhbmaa
