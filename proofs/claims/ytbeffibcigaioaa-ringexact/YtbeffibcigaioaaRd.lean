/-
  Contracts of layer 3, fourth part: Owner.
-/
import Derived.Test.YtbeffibcigaioaaRc
import Derived.Test.YtbeffibcigaioaaRb
namespace Go.Proofs.Ytbeffibcigaioaa
open Go.RowKit Go.Shelf

attribute [local go_sem] Oper.semAt_some

set_option maxRecDepth 100000 in
set_option maxHeartbeats 2000000 in
theorem owner_good (s t n : Int) (hn : Cap n) (hs0 : 0 ≤ s) (hs1 : s < n) (h0 : 0 ≤ t) (h1 : t ≤ 4611686018427387904) (w : World) :
    Calls Try.prog 16 #[.int .i64 s, .int .u64 t, .int .i64 n] w fun e' w' => e' = .returned (pairU (own s t n, 0)) ∧ Below w.heap.size w w' := by
  have hd := decide_eq_true hn
  have hdt := decide_eq_true h1
  have hn1 := hn.1
  have hn2 := hn.2
  have hw := wrap_cap hn
  have hwa : IntKind.u64.wrap (t + n) = t + n := wrap_u (by omega) (by omega)
  have hmo : Try.prog.follows Departure.mixedOrders = true := by kernel_rfl
  refine (callsIn_wide (n := 9)).1 ?_
  refine callsIn_of_wp_marks Try.func16 rfl trivial ?_ rfl
  simp only [Try.ntmps16, List.size_toArray, List.length_cons, List.length_nil, Nat.reduceAdd, Nat.reduceSub, Array.replicate_succ, Array.replicate_zero, List.push_toArray, List.append_toArray, List.nil_append, List.cons_append]
  gi_wp2_with (first | (refine ⟨trivial, ?_⟩; gi_at_call 24; refine (callsIn_wide.2 (cap_any _ _)).mono ?_; rintro e w' ⟨rfl, rfl⟩) | (refine ⟨trivial, ?_⟩; gi_at_call 26; refine (callsIn_wide.2 (tail_any _ _)).mono ?_; rintro e w' ⟨rfl, rfl⟩) | (refine ⟨trivial, ?_⟩; gi_at_call 10; refine (callsIn_wide.2 (span_any _ _ _)).mono ?_; rintro e w' ⟨rfl, rfl⟩))
  have bS := ((((Boxed.new w 3 (.int .i64 s)).alloc (.cells #[.int .i64 n] 3)).alloc (.cells #[.int .u64 0] 22)).alloc (.cells #[.int .u64 t] 22)).alloc (.cells #[.int .u64 (t + n)] 22)
  have bN := (((Boxed.new (w.alloc (.cells #[.int .i64 s] 3)) 3 (.int .i64 n)).alloc (.cells #[.int .u64 0] 22)).alloc (.cells #[.int .u64 t] 22)).alloc (.cells #[.int .u64 (t + n)] 22)
  have bO := ((Boxed.new ((w.alloc (.cells #[.int .i64 s] 3)).alloc (.cells #[.int .i64 n] 3)) 22 (.int .u64 0)).alloc (.cells #[.int .u64 t] 22)).alloc (.cells #[.int .u64 (t + n)] 22)
  have bT := (Boxed.new (((w.alloc (.cells #[.int .i64 s] 3)).alloc (.cells #[.int .i64 n] 3)).alloc (.cells #[.int .u64 0] 22)) 22 (.int .u64 t)).alloc (.cells #[.int .u64 (t + n)] 22)
  have bE := Boxed.new ((((w.alloc (.cells #[.int .i64 s] 3)).alloc (.cells #[.int .i64 n] 3)).alloc (.cells #[.int .u64 0] 22)).alloc (.cells #[.int .u64 t] 22)) 22 (.int .u64 (t + n))
  simp only [World.size_alloc] at bS bN bO bT bE
  have hB0 : Below w.heap.size w (((((w.alloc (.cells #[.int .i64 s] 3)).alloc (.cells #[.int .i64 n] 3)).alloc (.cells #[.int .u64 0] 22)).alloc (.cells #[.int .u64 t] 22)).alloc (.cells #[.int .u64 (t + n)] 22)) := (((((Below.refl _ w).alloc (Nat.le_refl _) _).alloc (by simp) _).alloc (by simp; omega) _).alloc (by simp; omega) _).alloc (by simp; omega) _
  have hsz : (((((w.alloc (.cells #[.int .i64 s] 3)).alloc (.cells #[.int .i64 n] 3)).alloc (.cells #[.int .u64 0] 22)).alloc (.cells #[.int .u64 t] 22)).alloc (.cells #[.int .u64 (t + n)] 22)).heap.size = w.heap.size + 5 := by simp
  obtain ⟨W0, hW0⟩ : ∃ W0, (((((w.alloc (.cells #[.int .i64 s] 3)).alloc (.cells #[.int .i64 n] 3)).alloc (.cells #[.int .u64 0] 22)).alloc (.cells #[.int .u64 t] 22)).alloc (.cells #[.int .u64 (t + n)] 22)) = W0 := ⟨_, rfl⟩
  rw [hW0] at bS bN bO bT bE hB0 hsz ⊢
  clear hW0
  refine wpIn_rangeFunc_ownH (F := Fence.wide) (n := 9) (P := Try.prog) rfl (by decide) (gf := 23) (lb := #[.pointer (some ⟨w.heap.size + 1 + 1 + 1, 0, none⟩), .pointer (some ⟨w.heap.size + 1 + 1 + 1 + 1, 0, none⟩)]) rfl trivial (enters_of Try.func23 (by kernel_rfl) rfl)
    (span_stops Fence.wide (9 - 1) trivial rfl (by decide) (w.heap.size + 1 + 1 + 1) (w.heap.size + 1 + 1 + 1 + 1) t (t + n) h0 (by omega) (by omega) (by omega) W0 bT bE) Kept2.trans (Kept2.keeps (by omega) (by omega)) (Below.refl _ _) (fun _ => rfl)
    (fun pre W => (((∀ x ∈ pre, x.1 % n ≠ s) ∧ (∃ y : Int, Boxed W (w.heap.size + 1 + 1) 22 (.int .u64 y))) ∧ (Boxed W w.heap.size 3 (.int .i64 s) ∧ Boxed W (w.heap.size + 1) 3 (.int .i64 n))) ∧ Below w.heap.size w W)
    (fun c pre W => ((c = .exit 0) ∧ (∃ (pre' : List U64) (x : U64), (pre = pre' ++ [x] ∧ x.1 % n = s) ∧ Boxed W (w.heap.size + 1 + 1) 22 (.int .u64 x.1))) ∧ Below w.heap.size w W)
    (OwnFrom.and (OwnFrom.and (OwnFrom.and (ownFrom_pure _ _) (fun _ X Y row hs hg hr => by obtain ⟨y, hy⟩ := hs; exact ⟨y, boxed_own (w.heap.size + 1 + 1) 22 (fun (_ : Unit) => Value.int .u64 y) () X Y row hy hg (fun r e => (hr r e).2)⟩)) (OwnFrom.and (Own.from (boxed_own _ _ _) _) (Own.from (boxed_own _ _ _) _))) (ownFrom_below (Nat.le_refl _) (by omega)))
    (fun c => OwnFrom.and (OwnFrom.and (ownFrom_pure _ _) (fun _ X Y row hs hg hr => by obtain ⟨pre', x, hp, hy⟩ := hs; exact ⟨pre', x, hp, boxed_own (w.heap.size + 1 + 1) 22 (fun (_ : Unit) => Value.int .u64 x.1) () X Y row hy hg (fun r e => (hr r e).2)⟩)) (ownFrom_below (Nat.le_refl _) (by omega)))
    ⟨⟨⟨by simp, _, bO⟩, bS, bN⟩, hB0⟩
    (fun x a' W => Boxed W (w.heap.size + 1 + 1) 22 (.int .u64 x.1) ∧ a' = { tmps := #[.int .i64 s, .int .u64 t, .int .i64 n, .pointer (some ⟨w.heap.size, 0, none⟩), undef, .pointer (some ⟨w.heap.size + 1, 0, none⟩), .int .u64 0, .int .i64 0, .pointer (some ⟨w.heap.size + 1 + 1, 0, none⟩), .int .i64 n, .bool true, .bool false, .bool false, .int .i64 s, .bool (decide (s < 0)), .bool (decide (s < 0)), .bool (decide (s < 0)), .int .i64 s, .int .i64 n, .bool (decide (n ≤ s)), .bool (decide (s < 0) || decide (n ≤ s)), .int .u64 t, .bool true, .bool false, .int .u64 t, .int .u64 t, .int .i64 n, .int .u64 n, .int .u64 (t + n), .func (.func 23) #[] #[.pointer (some ⟨w.heap.size + 1 + 1 + 1, 0, none⟩), .pointer (some ⟨w.heap.size + 1 + 1 + 1 + 1, 0, none⟩)], .int .u64 x.1, undef, undef, undef, undef, undef, undef], defers := [] })
    (fun x a' _ X Y row hs hg hr => ⟨boxed_own (w.heap.size + 1 + 1) 22 (fun (_ : Unit) => Value.int .u64 x.1) () X Y row hs.1 hg (fun r e => (hr r e).2), hs.2⟩)
    ?assign ?body ?done ?stop
  case assign =>
    rintro l pre x W K ⟨⟨⟨hp, y, hy⟩, bS1, bN1⟩, hB1⟩ hK
    have cO := hy.cell
    have fO := hy.frozen
    gi_wp2
    exact hK _ _ ((KeepsOthers.setCell _ _ _).from _) (Kept2.set W _ (by omega) (by omega)) ⟨⟨⟨hp, _, hy.set _⟩, bS1.other (by omega) _, bN1.other (by omega) _⟩, hB1.setCell (p := ⟨w.heap.size + 1 + 1, 0, none⟩) (by simp; omega) _⟩ ⟨hy.set _, rfl⟩
  case body =>
    rintro l pre x a' W hl ⟨r, hr⟩ ⟨⟨⟨hp, y, hy⟩, bS1, bN1⟩, hB1⟩ ⟨bX, rfl⟩ hlt
    have cX := bX.cell
    have cS := bS1.cell
    have cN := bN1.cell
    have hx0 := x.2.1
    cases hz : (x.1 % n == s)
    · have HP : Hid (∀ y ∈ pre ++ [x], y.1 % n ≠ s) := fun y hy => (List.mem_append.1 hy).elim (hp y) (fun e => by simp at e; subst e; simpa using hz)
      clear hp
      gi_wp2
      gi_region_with_o (refine ⟨trivial, ?_⟩; gi_at_call 25; refine (CallsIn.inRound l (callsIn_wide.2 (slotOf_any _ _ hx0 hn _))).mono ?_; rintro e w' ⟨rfl, rfl⟩)
      all_goals gi_wp2
      all_goals exact ⟨(KeepsOthers.drew W).from _, ⟨rfl, rfl⟩, ⟨⟨HP.out, _, bX⟩, bS1, bN1⟩, hB1.drew⟩
    · have HP : Hid (x.1 % n = s) := by show _ = _; simpa using hz
      clear hp
      gi_wp2
      gi_region_with_o (refine ⟨trivial, ?_⟩; gi_at_call 25; refine (CallsIn.inRound l (callsIn_wide.2 (slotOf_any _ _ hx0 hn _))).mono ?_; rintro e w' ⟨rfl, rfl⟩)
      all_goals gi_wp2
      all_goals exact ⟨(KeepsOthers.drew W).from _, ⟨rfl, pre, x, ⟨rfl, HP.out⟩, bX⟩, hB1.drew⟩
  case done =>
    rintro D ys W hD hS ⟨⟨⟨hp, y, hy⟩, bS1, bN1⟩, hB1⟩ hK
    exfalso
    have hin := owner_in s t n hn
    rw [← hS] at hin
    obtain ⟨z, hz, e⟩ := List.mem_map.1 hin
    exact hp z hz (by rw [e]; exact own_slot s t n (by omega) hs0 hs1)
  case stop =>
    rintro D c pre W hD hpre ⟨⟨rfl, pre', x, ⟨rfl, hx⟩, bX⟩, hB1⟩ hK
    have cX := bX.cell
    have HX : Hid (x.1 = own s t n) := prefix_owner s t n hn hs0 hs1 (nums pre') x.1 (by simpa [nums] using hpre) hx
    gi_wp2
    refine ⟨by simp, .inl ⟨_, _, rfl, run_takeDeferred hK, ?_⟩⟩
    refine ⟨_, results_tmp2 rfl _ _ _, ?_, hB1.trans (belowK_b (w := w) (Nat.le_refl _) W D _ _ (by omega) hK rfl rfl)⟩
    rw [← HX.out]
    rfl

theorem below_two {w : World} (a b : Obj) : Below w.heap.size w ((w.alloc a).alloc b) := ((Below.refl _ w).alloc (Nat.le_refl _) _).alloc (by simp) _

set_option maxHeartbeats 400000 in
theorem owner_bad (s t n : Int) (hb : ¬ (Cap n ∧ 0 ≤ s ∧ s < n)) (w : World) :
    Calls Try.prog 16 #[.int .i64 s, .int .u64 t, .int .i64 n] w fun e' w' => e' = .returned (pairU (0, 2)) ∧ Below w.heap.size w w' := by
  by_cases hn : Cap n
  · have hd := decide_eq_true hn
    by_cases hs : s < 0
    · go_enter Try.func16, Try.ntmps16
      go_wp2_with (go_at_call 24; refine (cap_any _ _).mono ?_; rintro e w' ⟨rfl, rfl⟩)
      go_ret2
      exact ⟨rfl, below_two _ _⟩
    · have hsn : n ≤ s := by
        rcases Int.lt_or_le s n with h | h
        · exact absurd ⟨hn, by omega, h⟩ hb
        · exact h
      clear hb
      go_enter Try.func16, Try.ntmps16
      go_wp2_with (go_at_call 24; refine (cap_any _ _).mono ?_; rintro e w' ⟨rfl, rfl⟩)
      go_ret2
      exact ⟨rfl, below_two _ _⟩
  · have hd := decide_eq_false hn
    go_enter Try.func16, Try.ntmps16
    go_wp2_with (go_at_call 24; refine (cap_any _ _).mono ?_; rintro e w' ⟨rfl, rfl⟩)
    go_ret2
    exact ⟨rfl, below_two _ _⟩

set_option maxHeartbeats 400000 in
theorem owner_far (s t n : Int) (hn : Cap n) (hs0 : 0 ≤ s) (hs1 : s < n) (h1 : ¬ t ≤ 4611686018427387904) (w : World) :
    Calls Try.prog 16 #[.int .i64 s, .int .u64 t, .int .i64 n] w fun e' w' => e' = .returned (pairU (0, 31)) ∧ Below w.heap.size w w' := by
  have hd := decide_eq_true hn
  have hdt := decide_eq_false h1
  clear h1
  go_enter Try.func16, Try.ntmps16
  go_wp2_with (first | (go_at_call 24; refine (cap_any _ _).mono ?_; rintro e w' ⟨rfl, rfl⟩) | (go_at_call 26; refine (tail_any _ _).mono ?_; rintro e w' ⟨rfl, rfl⟩))
  go_ret2
  exact ⟨rfl, below_two _ _⟩

theorem owner_any (s t n : Int) (h0 : 0 ≤ t) (w : World) :
    Calls Try.prog 16 #[.int .i64 s, .int .u64 t, .int .i64 n] w fun e' w' => e' = .returned (pairU (ownerS s t n)) ∧ Below w.heap.size w w' := by
  by_cases hb : Cap n ∧ 0 ≤ s ∧ s < n
  · by_cases h1 : t ≤ 4611686018427387904
    · rw [show ownerS s t n = (own s t n, 0) by simp only [ownerS, if_pos hb, if_neg (show ¬ t > 4611686018427387904 by omega)]]
      exact owner_good s t n hb.1 hb.2.1 hb.2.2 h0 h1 w
    · rw [show ownerS s t n = (0, 31) by simp only [ownerS, if_pos hb, if_pos (show t > 4611686018427387904 by omega)]]
      exact owner_far s t n hb.1 hb.2.1 hb.2.2 h1 w
  · rw [show ownerS s t n = (0, 2) by simp only [ownerS, if_neg hb]]
    exact owner_bad s t n hb w

end Go.Proofs.Ytbeffibcigaioaa
