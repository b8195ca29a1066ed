/-
  Layer 11: Place.
-/
import Derived.Deep.MidRow
import Derived.Test.YtkffmglcllhbmaaTc
namespace Go.Proofs.Ytkffmglcllhbmaa
open Go.RowKit Go.Shelf

attribute [local go_sem] Oper.semAt_some
theorem results_one {fn : Func} {p : Tmp} {ty : TypeId} {d : TypeDesc} (h : fn.results = #[.cell p ty]) (hu : Try.prog.underlying ty = some d) (hd : d.isRow = false) (tmps : Array Value) (w : World) (g : Nat) (v : Value)
    (hp : tmps.getD p undef = .pointer (some ⟨g, 0, none⟩)) (hc : w.cell? ⟨g, 0, none⟩ = some v) : (results fn tmps).run Try.prog w = .ok v w := by
  have hp' : tmps[p]?.getD undef = .pointer (some ⟨g, 0, none⟩) := by simpa using hp
  have hagg : (isAgg ty).run Try.prog w = .ok false w := by
    unfold isAgg
    rw [Sem.run_bind, run_underlying hu w]
    cases d <;> simp_all
  simp [results, h, hp', asAddr, loadVar, Sem.run_bind, hagg, go_sem, hc]
set_option maxRecDepth 100000 in
set_option maxHeartbeats 2000000 in
set_option maxRecDepth 100000 in
theorem place_any (p : Option Addr) (t : Int) (zs : List Int) (w : World) (hS : Stands w p zs) (hn : zs.length ≤ 100000) :
    Calls Try.prog 55 #[.pointer p, .int .u64 t] w fun e' w' => e' = .returned (.int .i64 (place zs t)) ∧ Below w.heap.size w w' := by
  refine (callsIn_wide (n := 9)).1 ?_
  refine callsIn_of_wp_marks Try.func55 rfl trivial ?_ rfl
  simp only [Try.ntmps55, List.size_toArray, List.length_cons, List.length_nil, Nat.reduceAdd, Nat.reduceSub, Array.replicate_succ, Array.replicate_zero, List.push_toArray, List.append_toArray, List.nil_append, List.cons_append]
  gi_wp2_with (first | (refine ⟨trivial, ?_⟩; gi_at_call 54; refine (callsIn_wide.2 (all_is _ _)).mono ?_; rintro e w' ⟨rfl, rfl⟩))
  have bT := (((Boxed.new w 30 (.int .u64 t)).alloc (.cells #[.int .i64 0] 3)).alloc (.cells #[.int .i64 0] 3)).alloc (.cells #[.pointer p] 80)
  have bR := ((Boxed.new (w.alloc (.cells #[.int .u64 t] 30)) 3 (.int .i64 0)).alloc (.cells #[.int .i64 0] 3)).alloc (.cells #[.pointer p] 80)
  have bA := (Boxed.new ((w.alloc (.cells #[.int .u64 t] 30)).alloc (.cells #[.int .i64 0] 3)) 3 (.int .i64 0)).alloc (.cells #[.pointer p] 80)
  have bB := Boxed.new (((w.alloc (.cells #[.int .u64 t] 30)).alloc (.cells #[.int .i64 0] 3)).alloc (.cells #[.int .i64 0] 3)) 80 (.pointer p)
  simp only [World.size_alloc] at bT bR bA bB
  have hB0 : Below w.heap.size w ((((w.alloc (.cells #[.int .u64 t] 30)).alloc (.cells #[.int .i64 0] 3)).alloc (.cells #[.int .i64 0] 3)).alloc (.cells #[.pointer p] 80)) := ((((Below.refl _ w).alloc (Nat.le_refl _) _).alloc (by simp) _).alloc (by simp; omega) _).alloc (by simp; omega) _
  have hsz : ((((w.alloc (.cells #[.int .u64 t] 30)).alloc (.cells #[.int .i64 0] 3)).alloc (.cells #[.int .i64 0] 3)).alloc (.cells #[.pointer p] 80)).heap.size = w.heap.size + 4 := by simp
  obtain ⟨W0, hW0⟩ : ∃ W0, ((((w.alloc (.cells #[.int .u64 t] 30)).alloc (.cells #[.int .i64 0] 3)).alloc (.cells #[.int .i64 0] 3)).alloc (.cells #[.pointer p] 80)) = W0 := ⟨_, rfl⟩
  rw [hW0] at bT bR bA bB hB0 hsz ⊢
  clear hW0
  refine wpIn_rangeFunc_ownG (F := Fence.wide) (n := 9) (P := Try.prog) rfl (by decide) (gf := 69) (lb := #[.pointer (some ⟨w.heap.size + 1 + 1 + 1, 0, none⟩)]) rfl trivial (enters_of Try.func69 (by kernel_rfl) rfl)
    (all_stops Fence.wide (9 - 1) trivial rfl (by decide) (w.heap.size + 1 + 1 + 1) w.heap.size p zs hn W0 w (by omega) (by omega) hB0 rfl bB.cell hS) belowK_t (belowK_b (by omega)) (Below.refl _ _) (fun _ => rfl)
    (fun pre W => (((t ∉ pre) ∧ (∃ y : Value, Boxed W (w.heap.size + 1) 3 y)) ∧ (Boxed W w.heap.size 30 (.int .u64 t) ∧ Boxed W (w.heap.size + 1 + 1) 3 (.int .i64 pre.length))) ∧ Below w.heap.size w W)
    (fun c pre W => ((c = .ret) ∧ (∃ (pre' : List Int), (pre = pre' ++ [t] ∧ t ∉ pre') ∧ Boxed W (w.heap.size + 1) 3 (.int .i64 pre'.length))) ∧ Below w.heap.size w W)
    (OwnFrom.and (OwnFrom.and (OwnFrom.and (ownFrom_pure _ _) (fun _ X Y row hs hg hr => by obtain ⟨y, hy⟩ := hs; exact ⟨y, boxed_own (w.heap.size + 1) 3 (fun (_ : Unit) => y) () X Y row hy hg (fun r e => (hr r e).2)⟩)) (OwnFrom.and (Own.from (boxed_own _ _ _) _) (Own.from (boxed_own (w.heap.size + 1 + 1) 3 (fun pre : List Int => Value.int .i64 pre.length)) _))) (ownFrom_below (Nat.le_refl _) (by omega)))
    (fun c => OwnFrom.and (OwnFrom.and (ownFrom_pure _ _) (fun _ X Y row hs hg hr => by obtain ⟨pre', hp, hy⟩ := hs; exact ⟨pre', hp, boxed_own (w.heap.size + 1) 3 (fun (_ : Unit) => Value.int .i64 pre'.length) () X Y row hy hg (fun r e => (hr r e).2)⟩)) (ownFrom_below (Nat.le_refl _) (by omega)))
    ⟨⟨⟨by simp, _, bR⟩, bT, bA⟩, hB0⟩
    (fun x => { tmps := #[.pointer p, .int .u64 t, undef, .pointer (some ⟨w.heap.size, 0, none⟩), .pointer (some ⟨w.heap.size + 1, 0, none⟩), .pointer (some ⟨w.heap.size + 1 + 1, 0, none⟩), .int .u64 x, .pointer p, seqV (w.heap.size + 1 + 1 + 1), .int .u64 x, undef, undef, undef, undef, undef, undef], defers := [] }) ?assign ?body ?done ?stop
  case assign =>
    intro l x W K hK
    gi_wp2
    exact hK
  case body =>
    rintro l pre x W ⟨⟨⟨hp, y, hy⟩, bT1, bA1⟩, hB1⟩ hlt
    have cT := bT1.cell
    have cA := bA1.cell
    have fA := bA1.frozen
    have cR := hy.cell
    have fR := hy.frozen
    have hlt' : pre.length < 100000 := by omega
    cases hz : (x == t)
    · have HP : Hid (t ∉ pre ++ [x]) := fun h => (List.mem_append.1 h).elim hp (fun e => by simp at e; subst e; simp at hz)
      have hw : IntKind.i64.wrap ((pre.length : Int) + 1) = (pre.length : Int) + 1 := by rw [IntKind.wrap_i64]; omega
      clear hp
      gi_wp2
      refine ⟨(KeepsOthers.setCell _ _ _).from _, (Below.refl _ _).setCell (p := ⟨w.heap.size + 1 + 1, 0, none⟩) (by simp; omega) _, ⟨⟨HP.out, _, hy.other (by omega) _⟩, bT1.other (by omega) _, ?_⟩, hB1.setCell (p := ⟨w.heap.size + 1 + 1, 0, none⟩) (by simp; omega) _⟩
      have := bA1.set (.int .i64 ((pre.length : Int) + 1))
      simpa using this
    · obtain rfl : x = t := by simpa using hz
      have HP : Hid (x ∉ pre) := hp
      clear hp
      gi_wp2
      exact ⟨(KeepsOthers.setCell _ _ _).from _, ⟨rfl, pre, ⟨rfl, HP.out⟩, hy.set _⟩, hB1.setCell (p := ⟨w.heap.size + 1, 0, none⟩) (by simp) _⟩
  case done =>
    rintro D ys W hD hSt ⟨⟨⟨hp, y, hy⟩, bT1, bA1⟩, hB1⟩ hK
    subst hSt
    have HP : Hid (t ∉ ys) := hp
    clear hp
    have cR := hy.cell
    have fR := hy.frozen
    gi_wp2
    have hK2 : (W.setCell ⟨w.heap.size + 1, 0, none⟩ (.int .i64 (-1))).heap[D]? = some (.deferred (some [])) := (Below.heap_setCell _ _ _ _ (by show D ≠ w.heap.size + 1; omega)).trans hK
    refine ⟨by simp, .inl ⟨_, _, rfl, run_takeDeferred hK2, ?_⟩⟩
    have b2 : Boxed ((W.setCell ⟨w.heap.size + 1, 0, none⟩ (.int .i64 (-1))).putObj D (.deferred none)) (w.heap.size + 1) 3 (.int .i64 (-1)) := (World.putObj_heap_other (by omega)).trans (hy.set _)
    refine ⟨_, results_one rfl Try.underlying3 rfl _ _ (w.heap.size + 1) _ rfl b2.cell, by rw [place_out HP.out], (hB1.setCell (p := ⟨w.heap.size + 1, 0, none⟩) (by simp) _).trans (belowK_b (w := w) (Nat.le_refl _) _ D _ _ (by omega) hK2 rfl rfl)⟩
  case stop =>
    rintro D c pre W hD hpre ⟨⟨rfl, pre', ⟨rfl, hx⟩, bX⟩, hB1⟩ hK
    obtain ⟨hin, hix⟩ := idxOf_pre pre' t zs hx hpre
    have HX : Hid (place zs t = pre'.length) := by show _ = _; rw [place_in hin, hix]
    gi_wp2
    refine ⟨by simp, .inl ⟨_, _, rfl, run_takeDeferred hK, ?_⟩⟩
    have b2 : Boxed (W.putObj D (.deferred none)) (w.heap.size + 1) 3 (.int .i64 pre'.length) := (World.putObj_heap_other (by omega)).trans bX
    exact ⟨_, results_one rfl Try.underlying3 rfl _ _ (w.heap.size + 1) _ rfl b2.cell, by rw [HX.out], hB1.trans (belowK_b (w := w) (Nat.le_refl _) W D _ _ (by omega) hK rfl rfl)⟩
end Go.Proofs.Ytkffmglcllhbmaa
