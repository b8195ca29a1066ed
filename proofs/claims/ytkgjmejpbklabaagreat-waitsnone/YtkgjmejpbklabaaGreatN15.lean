/-
  Layer 13: what only reads a line. Layer 13: Freed, Append, Done, Leave.
-/
import Derived.Test.YtkgjmejpbklabaaGreatN14
namespace Go.Proofs.YtkgjmejpbklabaaGreat.M
open Go.RowKit
open Go.Shelf
attribute [local go_sem] Oper.semAt_some
/-- a list of tickets that a call has made -/
structure MadeU (w w' : World) (v : Value) (xs : List Int) : Prop where
  own : w'.ownsRow w.heap.size 44 1 v xs.length (V64 xs)
  below : Below w.heap.size w w'
theorem MadeU.read {w w' : World} {v : Value} {xs : List Int} (h : MadeU w w' v xs) : ∃ p c, v = .slice p xs.length c ∧ UIn w' p xs.length xs ∧ xs.length ≤ c ∧ (p = none → c = 0) := (Row.own h.own).1.form
set_option maxRecDepth 100000 in
set_option maxHeartbeats 2000000 in
theorem appendSeqU_at (Q B : Nat) (v : Value) (m : Int) (zs : List Int) (w : World) (hQ : QAt 59 w Q v zs m) (hB : B < w.heap.size) (hc : w.cell? ⟨B, 0, none⟩ = some (qp Q)) (hn : zs.length ≤ 1000) :
    Calls Tryz.prog 76 #[nils, seqV B] w fun e w' => ∃ v', e = .returned v' ∧ MadeU w w' v' zs := by
  obtain ⟨i0, hi, hz0, hz1, hz2⟩ := info_parts info26
  refine (callsIn_wide (n := 9)).1 ?_
  refine callsIn_of_wp_marks Tryz.func76 rfl trivial ?_ rfl
  simp only [Tryz.ntmps76, List.size_toArray, List.length_cons, List.length_nil, Nat.reduceAdd, Nat.reduceSub, Array.replicate_succ, Array.replicate_zero, List.push_toArray, List.append_toArray, List.nil_append, List.cons_append]
  gi_wp2
  have bL := Boxed.new w 37 nils
  have hB0 : Below w.heap.size w (w.alloc (.cells #[nils] 37)) := below_alloc w _
  have hcB : (w.alloc (.cells #[nils] 37)).cell? ⟨B, 0, none⟩ = some (qp Q) := (hB0.cell (p := ⟨B, 0, none⟩) hB).trans hc
  have hsz : (w.alloc (.cells #[nils] 37)).heap.size = w.heap.size + 1 := by simp
  obtain ⟨W0, hW0⟩ : ∃ W0, w.alloc (.cells #[nils] 37) = W0 := ⟨_, rfl⟩
  rw [hW0] at bL hB0 hcB hsz ⊢
  clear hW0
  refine wpIn_rangeFunc_ownG (F := Fence.wide) (n := 9) (P := Tryz.prog) rfl (by decide) (gf := 77) (lb := #[.pointer (some ⟨B, 0, none⟩)]) rfl trivial (enters_of Tryz.func77 (by kernel_rfl) rfl)
    (all_stops Fence.wide (9 - 1) trivial rfl (by decide) B w.heap.size (some ⟨Q, 0, none⟩) zs (by omega) W0 w (by omega) (by omega) hB0 rfl hcB (.inr ⟨Q, v, m, rfl, hQ⟩)) belowK_t (belowK_b (by omega)) (Below.refl _ _) (fun _ => rfl)
    (fun pre W => (∃ v, Boxed W w.heap.size 37 v ∧ W.ownsRow w.heap.size 44 1 v pre.length (V64 pre) ∧ True) ∧ Below w.heap.size w W) (fun c pre W => False)
    (OwnFrom.and (Own.from (holdsRow_own w.heap.size w.heap.size 37 44 1 (fun pre : List Int => pre.length) (fun pre : List Int => V64 pre) (fun _ _ => True)) _) (ownFrom_below (Nat.le_refl _) (by omega))) (fun c => ownFrom_pure _ _)
    ⟨⟨_, bL, World.ownsRow_nil _ _ _ _, trivial⟩, hB0⟩
    (fun x => { tmps := #[nils, seqV B, .pointer (some ⟨w.heap.size, 0, none⟩), undef, nils, .int .u64 x, seqV B, .int .u64 x, undef, undef, undef, undef, undef], defers := [] }) ?assign ?body ?done ?stop
  case assign =>
    intro l x W K hK
    gi_wp2
    exact hK
  case body =>
    rintro l pre x W ⟨⟨v, hv, hrow, _⟩, hB⟩ hlt
    have hc := hv.cell
    have hle := hB.size
    have hml : 10001 ≤ maxLen := by decide
    obtain ⟨pv, cv, rfl, _, _, _⟩ := (Row.own hrow).1.form
    gi_wp2_with (gi_at_builtin; refine wpListIn_append_own _ rfl _ _ 37 rfl w.heap.size 44 i0 (.int .u64 0) 1 8 Tryz.underlying37 hi hz0 hz1 hz2 rfl (by decide) _ _ _ rfl (hrow.alloc _) ⟨W.heap.size, 0, none⟩ 1 1 [.int .u64 x] rfl rfl (cell_one_new _ _ _) (by simp [Value.oneCell']) (by omega) (by omega) (by simp; omega) ?_; intro v' w1 hown' hgrow _; obtain ⟨g', cap', rfl⟩ := ownsRow_succ hown'; obtain ⟨hv1, hv2, hr2, hk2, hb2⟩ := hv.appended (by decide) hrow hle (Nat.le_refl _) hown' hgrow; have hc1 := hv1.cell; have hf1 := hv1.frozen; have hc2 := hv2.cell)
    rw [show V64 pre ++ [Value.int .u64 x] = V64 (pre ++ [x]) by simp [V64], show pre.length + 1 = (pre ++ [x]).length by simp] at hr2
    exact ⟨hk2.from _, hb2, ⟨_, hv2, by simpa using hr2, trivial⟩, hB.trans hb2⟩
  case done =>
    rintro D ys W hD hSt ⟨⟨v, hv, hrow, _⟩, hB⟩ hK
    subst hSt
    obtain ⟨pv, cv, rfl, _, _, _⟩ := (Row.own hrow).1.form
    have hc := hv.cell
    have HR : Hid (W.ownsRow w.heap.size 44 1 (.slice pv ys.length cv) ys.length (V64 ys)) := hrow
    have HB : Hid (Below w.heap.size w W) := hB
    clear hrow hB hv
    gi_wp2
    refine ⟨by simp, .inl ⟨_, _, rfl, run_takeDeferred hK, ?_⟩⟩
    exact ⟨_, by simp [results, Tryz.results76, go_sem], _, rfl, ownsRow_putObj HR.out (.deferred none) hK rfl, HB.out.trans (belowK_b (w := w) (Nat.le_refl _) _ D _ _ (by omega) hK rfl rfl)⟩
  case stop =>
    rintro D c pre W hD hpre hf hK
    exact hf.elim
set_option maxHeartbeats 1000000 in
set_option maxRecDepth 100000 in
theorem collectU_at (Q B : Nat) (v : Value) (m : Int) (zs : List Int) (w : World) (hQ : QAt 59 w Q v zs m) (hB : B < w.heap.size) (hc : w.cell? ⟨B, 0, none⟩ = some (qp Q)) (hn : zs.length ≤ 1000) :
    Calls Tryz.prog 44 #[seqV B] w fun e w' => ∃ v', e = .returned v' ∧ MadeU w w' v' zs := by
  go_enter Tryz.func44, Tryz.ntmps44
  go_wp2_with (go_at_call 76; refine (appendSeqU_at Q B v m zs w hQ hB hc hn).mono ?_; rintro e w' ⟨v', rfl, hm⟩)
  go_ret
  exact ⟨v', rfl, hm⟩
section
variable {w : World} {F : Ft} {n : Nat} {a : Ad}
set_option maxHeartbeats 1000000 in
set_option maxRecDepth 100000 in
theorem in_at (h : PL w F n a) (hN : a.next ≤ 1000) : Calls Tryz.prog 18 #[qp F.Q] w fun e w' => ∃ v, e = .returned v ∧ MadeU w w' v (it a.I) := by
  have hl : (it a.I).length ≤ 1000 := by have := h.ok.ilen; simp only [it, List.length_map]; omega
  have c7 : w.cell? ⟨F.Q, 7, none⟩ = some (qp F.q2) := h.c 7
  have HQ : Hid (QAt 59 (w.alloc (.cells #[qp F.q2] 57)) F.q2 F.v2 (it a.I) a.got) := h.l2.later (below_alloc w _)
  clear h
  go_enter Tryz.func18, Tryz.ntmps18
  go_wp2_with (first | (go_at_call 45; refine (all_is _ _).mono ?_; rintro e w' ⟨rfl, rfl⟩) | (go_at_call 44; refine (collectU_at F.q2 w.heap.size F.v2 a.got (it a.I) _ HQ.out (by simp) (Boxed.cell (Boxed.new w 57 (qp F.q2))) hl).mono ?_; rintro e w' ⟨v', rfl, hm⟩))
  go_ret
  exact ⟨v', rfl, B.own_mono hm.own (by simp), below_then (below_alloc w _) hm.below⟩
set_option maxHeartbeats 1000000 in
set_option maxRecDepth 100000 in
theorem in_nil (w : World) : Calls Tryz.prog 18 #[nilq] w fun e w' => e = .returned nils ∧ w' = w := by
  go_enter Tryz.func18, Tryz.ntmps18
  go_wp2
  go_ret
  exact ⟨rfl, rfl⟩
theorem waiting_at (h : PL w F n a) (hN : a.next ≤ 1000) : Calls Tryz.prog 14 #[qp F.Q] w fun e w' => ∃ v, e = .returned v ∧ MadeU w w' v (wt a.W) := by
  have hl : (wt a.W).length ≤ 1000 := by have := h.ok.wlen; simp only [wt, List.length_map]; omega
  obtain ⟨m, hm, hs, _⟩ := h.fm
  refine (waiting_seq (h.sq hN m hm hs) hl).mono ?_
  rintro e w' ⟨v, xs, hS, rfl, ho, hb⟩
  have e1 : xs.map TV.t = wt a.W := by
    have := congrArg (List.map Prod.fst) hS
    simpa [its, Function.comp_def] using this
  have e2 : xs.length = (wt a.W).length := by rw [← e1]; simp
  rw [e1, e2] at ho
  exact ⟨v, rfl, ho, hb⟩
theorem waiting_nil (w : World) : Calls Tryz.prog 14 #[nilq] w fun e w' => ∃ v, e = .returned v ∧ MadeU w w' v [] := by
  refine (waiting_seq (nil_sq w) (by omega)).mono ?_
  rintro e w' ⟨v, xs, rfl, rfl, ho, hb⟩
  exact ⟨v, rfl, ho, hb⟩
theorem first_at (h : PL w F n a) (hN : a.next ≤ 1000) : Calls Tryz.prog 41 #[qp F.Q] w fun e w' => ∃ v, e = .returned (.tuple #[.int .u64 a.fT, v, .bool a.isW]) ∧ Frm w' v a.fF ∧ Below w.heap.size w w' := by
  obtain ⟨m, hm, hs, hf⟩ := h.fm
  refine (first_seq (h.sq hN m hm hs)).mono ?_
  rintro e w' ⟨hb, (⟨hS, rfl⟩ | ⟨x, hS, rfl⟩)⟩
  · have hW : a.W = [] := by
      have := congrArg List.length hS
      simp only [its, wt, List.length_map, List.length_nil] at this
      exact List.eq_nil_of_length_eq_zero this.symm
    refine ⟨nils, ?_, ?_, hb⟩
    · simp [Ad.fT, Ad.isW, hW]
    · simp only [Ad.fF, hW]; exact Frm.nil w'
  · cases hW : a.W with
    | nil => rw [hW] at hS; simp [its, wt] at hS
    | cons y r =>
      rw [hW] at hS
      simp only [its, wt, List.map_cons, List.map_nil, List.cons_prefix_cons, List.nil_prefix, and_true] at hS
      obtain ⟨v, hv, hfr, _⟩ := hf y (by simp [Ad.fl, hW])
      rw [hv] at hS
      simp only [Option.getD_some, TV.two, Prod.mk.injEq] at hS
      refine ⟨x.val, ?_, ?_, hb⟩
      · simp [Ad.fT, Ad.isW, hW, hS.1]
      · simp only [Ad.fF, hW]
        rw [hS.2]
        exact hfr.later hb
theorem first_nilL (w : World) : Calls Tryz.prog 41 #[nilq] w fun e w' => e = .returned (.tuple #[.int .u64 0, nils, .bool false]) ∧ Below w.heap.size w w' := by
  refine (first_seq (nil_sq w)).mono ?_
  rintro e w' ⟨hb, (⟨_, rfl⟩ | ⟨x, hS, rfl⟩)⟩
  · exact ⟨rfl, hb⟩
  · exact hS.elim
set_option maxHeartbeats 1000000 in
set_option maxRecDepth 100000 in
theorem cloneI_nil (w : World) : Calls Tryz.prog 61 #[nils] w fun e w' => e = .returned nils ∧ w' = w := by
  have hnn : ∀ w : World, (binOp BinOp.eql 72 (.slice none 0 0) (.slice none 0 0)).run Tryz.prog w = .ok (.bool true) w := fun w => by kernel_rfl
  go_enter Tryz.func61, Tryz.ntmps61
  go_wp2
  go_ret
  exact ⟨rfl, rfl⟩
theorem empty_own (w : World) : (w.alloc (.cells #[] 3)).ownsRow w.heap.size 3 1 (.slice (some ⟨w.heap.size, 0, none⟩) 0 0) 0 [] := ⟨rfl, .inr ⟨w.heap.size, 0, #[], rfl, Nat.le_refl _, heap_alloc_new w _, Nat.le_refl _, Nat.zero_le _, rfl, rfl⟩⟩
set_option maxHeartbeats 1000000 in
set_option maxRecDepth 100000 in
theorem cloneI_at {v : Value} {f : List Int} (h : Frm w v f) (hf : f.length ≤ 100) : Calls Tryz.prog 61 #[v] w fun e w' => ∃ q d, e = .returned (.slice q f.length d) ∧ B.Made w w' q f.length d f := by
  obtain ⟨p, c, rfl, hI, hfc, hp0⟩ := h.read
  clear h
  cases p with
  | none =>
    obtain rfl := hp0 rfl
    obtain rfl : f = [] := List.eq_nil_of_length_eq_zero (by omega)
    refine (cloneI_nil w).mono ?_
    rintro e w' ⟨rfl, rfl⟩
    exact ⟨none, 0, rfl, B.made_nil _ (Below.refl _ _)⟩
  | some ad =>
    obtain ⟨i0, hi, hz0, hz1, hz2⟩ := info_parts B.info3
    have hml : 100 ≤ maxLen := by decide
    have HI : Hid (B.IIn w (some ad) f.length f) := hI
    clear hI
    have hnn : ∀ w : World, (binOp BinOp.eql 72 (.slice (some ad) f.length c) (.slice none 0 0)).run Tryz.prog w = .ok (.bool false) w := fun w => by kernel_rfl
    go_enter Tryz.func61, Tryz.ntmps61
    go_wp2_with (at_builtin; (refine B.wpList_append_any _ rfl (.tmp 5) (.tmp 6) 72 rfl w.heap.size 3 i0 (.int .i64 0) 8 Tryz.underlying72 hi hz0 hz1 hz2 rfl (.slice (some ⟨w.heap.size, 0, none⟩) 0 0) 0 [] rfl (empty_own w) (some ad) f.length c (B.I64 f) rfl hp0 hfc (by simp) ((HI.out.later (below_alloc w _)).newsAny) (B.ones_i64 f) (by omega) (by omega) (by simp) ?_; intro v2 w2 r2 k2; have R2 : Hid (w2.ownsRow w.heap.size 3 1 v2 f.length (B.I64 f) ∧ (w.alloc (.cells #[] 3)).grownBy w2 (some w.heap.size)) := ⟨by simpa using r2, k2⟩; clear r2 k2))
    go_ret
    have hb : Below w.heap.size w w2 := (L.Kept.of_grown R2.out.2).into (below_alloc w _) (fun b hb e => by omega) (Nat.le_refl _)
    obtain ⟨q, d, rfl, hm⟩ := B.made_of R2.out.1 hb
    exact ⟨q, d, rfl, hm⟩
theorem Ad.Ok.flen {a : Ad} (h : a.Ok) : a.fF.length ≤ 16 := by
  unfold Ad.fF
  cases hW : a.W with
  | nil => simp
  | cons x r =>
    have h1 := h.wform x (by rw [hW]; exact List.mem_cons_self ..)
    have h2 := h.may.2.2.2.2.2.1
    show x.2.length ≤ 16
    omega
set_option maxHeartbeats 1000000 in
set_option maxRecDepth 100000 in
theorem reservation_is (p : Option Addr) (n c : Nat) (hn : n ≤ 1000) (w : World) : Calls Tryz.prog 43 #[.slice p n c] w fun e w' => e = .returned (.int .i64 ((n : Int) + 1)) ∧ w' = w := by
  have hw : IntKind.i64.wrap ((n : Int) + 1) = (n : Int) + 1 := by rw [IntKind.wrap_i64]; omega
  go_enter Tryz.func43, Tryz.ntmps43
  go_wp2
  go_ret
  exact ⟨rfl, rfl⟩
set_option maxHeartbeats 1000000 in
set_option maxRecDepth 100000 in
theorem left_at (h : PL w F n a) {t : Int} (ht : L.U64 t) : Calls Tryz.prog 69 #[qp F.Q, .int .u64 t] w fun e w' => e = .returned (.tuple #[.int .i64 (a.leftN t), .bool (a.leftB t)]) ∧ w' = w := by
  have c9 : w.cell? ⟨F.Q, 9, none⟩ = some (qp F.lb) := h.c 9
  have HL : Hid (L.LAt w F.lb F.lm n a.lg) := h.rm
  have e1 : (L.look t a.lg.L).getD 0 = a.leftN t := by show (L.look t (lefts a.I)).getD 0 = _; rw [look_lefts]; rfl
  have e2 : (L.look t a.lg.L).isSome = a.leftB t := by show (L.look t (lefts a.I)).isSome = _; rw [look_lefts]; simp [Ad.leftB]
  have HC := L.left_at HL.out ht
  rw [e1, e2] at HC
  clear h HL e1 e2
  generalize a.leftN t = x at *
  generalize a.leftB t = y at *
  have HC' : Hid (Calls Tryz.prog 93 #[qp F.lb, .int .u64 t] w fun e w' => e = .returned (.tuple #[.int .i64 x, .bool y]) ∧ w' = w) := HC
  clear HC
  go_enter Tryz.func69, Tryz.ntmps69
  go_wp2_with (go_at_call 93; refine HC'.out.mono ?_; rintro e w' ⟨rfl, rfl⟩)
  go_ret2
  exact ⟨rfl, rfl⟩
set_option maxHeartbeats 1000000 in
set_option maxRecDepth 100000 in
theorem left_nil (w : World) (t : Int) : Calls Tryz.prog 69 #[nilq, .int .u64 t] w fun e w' => e = .returned (.tuple #[.int .i64 0, .bool false]) ∧ w' = w := by
  go_enter Tryz.func69, Tryz.ntmps69
  go_wp2
  go_ret2
  exact ⟨rfl, rfl⟩
theorem fits_lg {a : Ad} (hW : a.isW = true) : L.fitsS a.lg ((a.fF.length : Int) + 1) = a.fits := by
  unfold L.fitsS Ad.fits
  cases hc : a.W with
  | nil => simp [Ad.isW, hc] at hW
  | cons x r =>
    have e1 : a.fF = x.2 := by simp [Ad.fF, hc]
    have e2 : L.total a.lg.L = a.rsv := rfl
    have e3 : a.lg.used = a.used := rfl
    have e4 : a.lg.cap = a.lc := rfl
    rw [e1, e2, e3, e4]
    show decide _ = decide _
    congr 1
    exact propext ⟨fun h => by omega, fun h => by omega⟩
theorem fits_noW {a : Ad} (hW : a.isW = false) : a.fits = false := by
  cases hc : a.W with
  | nil => simp [Ad.fits, hc]
  | cons x r => simp [Ad.isW, hc] at hW
set_option maxHeartbeats 1000000 in
set_option maxRecDepth 100000 in
theorem fits_at (h : PL w F n a) (hN : a.next ≤ 1000) : Calls Tryz.prog 17 #[qp F.Q] w fun e w' => e = .returned (.bool a.fits) ∧ Below w.heap.size w w' := by
  have hl := h.ok.flen
  have HO : Hid a.Ok := h.ok
  have H : Hid (PL w F n a) := h
  clear h
  go_enter Tryz.func17, Tryz.ntmps17
  go_wp2_with fail
  refine (first_at H.out hN).mono ?_
  rintro e w1 ⟨v, rfl, hfr, hb⟩
  obtain ⟨p, c, rfl, -⟩ := hfr.read
  have HB : Hid (Below w.heap.size w w1) := hb
  have c9 : w1.cell? ⟨F.Q, 9, none⟩ = some (qp F.lb) := (H.out.later hb).c 9
  have HL : Hid (L.LAt w1 F.lb F.lm n a.lg) := (H.out.later hb).rm
  clear hfr hb
  cases hW : a.isW with
  | false =>
    have HE : Hid (a.fits = false) := fits_noW hW
    clear hW
    go_wp2_with fail
    go_quiet (fail)
    go_wp2
    go_ret
    exact ⟨by rw [HE.out]; rfl, below_then HB.out (below_drawn _)⟩
  | true =>
    have HE : Hid (L.fitsS a.lg ((a.fF.length : Int) + 1) = a.fits) := fits_lg hW
    have HF : Hid (∀ q, Calls Tryz.prog 42 #[L.lp F.lb, .int .i64 ((a.fF.length : Int) + 1)] (w1.drewN q) fun e w' => e = .returned (.bool a.fits) ∧ ∃ m, w' = (w1.drewN q).drewN m) := fun q => by
      have := L.fits_at (HL.out.drawn q) HO.out.lok ((a.fF.length : Int) + 1)
      rwa [HE.out] at this
    clear hW HE HL
    obtain ⟨fb, hfb⟩ : ∃ fb, a.fits = fb := ⟨_, rfl⟩
    have HG : Hid (a.fits = fb) := hfb
    rw [hfb] at HF
    clear hfb
    go_wp2_with fail
    go_quiet (first | (go_at_call 43; exact Calls.quiet_of_same (reservation_is _ _ _ (by omega) _)) | (go_at_call 42; exact Calls.quiet_of (HF.out _)))
    go_wp2
    go_ret
    exact ⟨by rw [HG.out]; rfl, below_then HB.out (below_drawn _)⟩
set_option maxHeartbeats 1000000 in
set_option maxRecDepth 100000 in
theorem fits_nil (w : World) : Calls Tryz.prog 17 #[nilq] w fun e w' => e = .returned (.bool false) ∧ Below w.heap.size w w' := by
  go_enter Tryz.func17, Tryz.ntmps17
  go_wp2_with fail
  refine (first_nilL w).mono ?_
  rintro e w1 ⟨rfl, hb⟩
  have HB : Hid (Below w.heap.size w w1) := hb
  clear hb
  go_wp2_with fail
  go_quiet (fail)
  go_wp2
  go_ret
  exact ⟨rfl, below_then HB.out (below_drawn _)⟩
end
end Go.Proofs.YtkgjmejpbklabaaGreat.M
namespace Go.Proofs.YtkgjmejpbklabaaGreat.M
open Go.RowKit
/-- a line's blocks are all different -/
structure Ne (F : Ft) : Prop where
  Qq1 : F.Q ≠ F.q1
  Qq2 : F.Q ≠ F.q2
  Qm : F.Q ≠ F.mb
  Ql : F.Q ≠ F.lb
  Qn : F.Q ≠ F.lm
  q1m : F.q1 ≠ F.mb
  q1l : F.q1 ≠ F.lb
  q1n : F.q1 ≠ F.lm
  q2m : F.q2 ≠ F.mb
  q2l : F.q2 ≠ F.lb
  q2n : F.q2 ≠ F.lm
  q12 : F.q1 ≠ F.q2
  ml : F.mb ≠ F.lb
  mn : F.mb ≠ F.lm
  v1 : ∀ g, blk F.v1 = some g → g ≠ F.Q ∧ g ≠ F.q1 ∧ g ≠ F.q2 ∧ g ≠ F.mb ∧ g ≠ F.lb ∧ g ≠ F.lm
  v2 : ∀ g, blk F.v2 = some g → g ≠ F.Q ∧ g ≠ F.q1 ∧ g ≠ F.q2 ∧ g ≠ F.mb ∧ g ≠ F.lb ∧ g ≠ F.lm
  v12 : ∀ g, blk F.v1 = some g → ¬ blk F.v2 = some g
section
variable {w w' : World} {F : Ft} {n : Nat} {a : Ad}
theorem PL.ne (h : PL w F n a) : Ne F :=
  ⟨ne_kd h.kQ h.k1 (by decide), ne_kd h.kQ h.k2 (by decide), ne_kd h.kQ h.km (by decide), ne_kd h.kQ h.kl (by decide), ne_kd h.kQ h.kn (by decide),
   ne_kd h.k1 h.km (by decide), ne_kd h.k1 h.kl (by decide), ne_kd h.k1 h.kn (by decide), ne_kd h.k2 h.km (by decide), ne_kd h.k2 h.kl (by decide), ne_kd h.k2 h.kn (by decide), h.q12, ne_kd h.km h.kl (by decide), h.mm,
   fun g hg => ⟨ne_kd (h.kv1 hg) h.kQ (by decide), ne_kd (h.kv1 hg) h.k1 (by decide), ne_kd (h.kv1 hg) h.k2 (by decide), ne_kd (h.kv1 hg) h.km (by decide), ne_kd (h.kv1 hg) h.kl (by decide), ne_kd (h.kv1 hg) h.kn (by decide)⟩,
   fun g hg => ⟨ne_kd (h.kv2 hg) h.kQ (by decide), ne_kd (h.kv2 hg) h.k1 (by decide), ne_kd (h.kv2 hg) h.k2 (by decide), ne_kd (h.kv2 hg) h.km (by decide), ne_kd (h.kv2 hg) h.kl (by decide), ne_kd (h.kv2 hg) h.kn (by decide)⟩, h.v12⟩
theorem PL.hasL (F : Ft) {b : Nat} (hb : L.LF F.lb F.lm b) : F.has b := by
  rcases hb with rfl | rfl
  · exact .inr (.inr (.inr (.inr (.inr (.inr (.inl rfl))))))
  · exact .inr (.inr (.inr (.inr (.inr (.inr (.inr rfl))))))
theorem PL.intL (h : PL w F n a) {g : Nat} (hg : kd w g = 3) : ¬ L.LF F.lb F.lm g := fun e => h.noInts hg (PL.hasL F e)
/-- the ledger alone has turned -/
theorem PL.led {a' : Ad} {k : Nat} (h : PL w F n a) (hk : Kept (L.LF F.lb F.lm) w w') (hr : L.LAt w' F.lb F.lm k a'.lg) (hn : n ≤ k) (e1 : lcells F a' = lcells F a) (e2 : a'.W = a.W) (e3 : it a'.I = it a.I) (e4 : a'.got = a.got) (e5 : a'.next = a.next) (e6 : ∀ x ∈ a'.fl, x ∈ a.fl) (ok : a'.Ok) : PL w' F k a' := by
  have N := h.ne
  refine ⟨?_, ?_, ?_, ?_, hr, ok, h.q12, h.v12, h.mm⟩
  · rw [e1]; exact (hk.block _ (h.lt (.inl rfl)) (by rintro (e | e); exact N.Ql e; exact N.Qn e)).trans h.st
  · rw [e2, e5]; exact h.l1.far hk (by rintro (e | e); exact N.q1l e; exact N.q1n e) (fun g hg => by rintro (e | e); exact (N.v1 g hg).2.2.2.2.1 e; exact (N.v1 g hg).2.2.2.2.2 e)
  · rw [e3, e4]; exact h.l2.far hk (by rintro (e | e); exact N.q2l e; exact N.q2n e) (fun g hg => by rintro (e | e); exact (N.v2 g hg).2.2.2.2.1 e; exact (N.v2 g hg).2.2.2.2.2 e)
  · exact ((h.fm.far hk (by rintro (e | e); exact N.ml e; exact N.mn e) (fun g _ hg => h.intL hg)).mono hn).sub e6
theorem lg_fre (a : Ad) (k : Int) : L.freS a.lg k = (a.freS k).lg := by
  unfold L.freS Ad.freS
  by_cases e : 0 ≤ k ∧ k ≤ a.used
  · have e' : 0 ≤ k ∧ k ≤ a.lg.used := e
    rw [if_pos e', if_pos e]; rfl
  · have e' : ¬ (0 ≤ k ∧ k ≤ a.lg.used) := e
    rw [if_neg e', if_neg e]
set_option maxHeartbeats 1000000 in
set_option maxRecDepth 100000 in
theorem freed_at (h : PL w F n a) (k : Int) : Calls Tryz.prog 38 #[qp F.Q, .int .i64 k] w fun e w' => e = .returned (.int .i64 (a.freE k)) ∧ PL w' F (n + 1) (a.freS k) ∧ Kept F.has w w' := by
  have c9 : w.cell? ⟨F.Q, 9, none⟩ = some (qp F.lb) := h.c 9
  have H : Hid (PL w F n a) := h
  clear h
  go_enter Tryz.func38, Tryz.ntmps38
  go_wp2_with (go_at_call 73; refine (L.free_at H.out.rm H.out.ok.lok k).mono ?_; rintro e w' ⟨rfl, h1, h2⟩; have HR : Hid (L.LAt w' F.lb F.lm (n + 1) (L.freS a.lg k) ∧ Kept (L.LF F.lb F.lm) w w') := ⟨h1, h2⟩; clear h1 h2)
  go_ret
  refine ⟨rfl, ?_, HR.out.2.wider fun x _ e => PL.hasL F e⟩
  have hr := HR.out.1
  rw [lg_fre] at hr
  have hok := H.out.ok.fre k
  unfold Ad.freS at hr hok ⊢
  by_cases e : 0 ≤ k ∧ k ≤ a.used
  · rw [if_pos e] at hr hok ⊢
    exact H.out.led HR.out.2 hr (Nat.le_succ _) rfl rfl rfl rfl rfl (fun x hx => hx) hok
  · rw [if_neg e] at hr hok ⊢
    exact H.out.led HR.out.2 hr (Nat.le_succ _) rfl rfl rfl rfl rfl (fun x hx => hx) hok
set_option maxHeartbeats 1000000 in
set_option maxRecDepth 100000 in
theorem freed_nil (w : World) (k : Int) : Calls Tryz.prog 38 #[nilq, .int .i64 k] w fun e w' => e = .returned (.int .i64 1) ∧ w' = w := by
  go_enter Tryz.func38, Tryz.ntmps38
  go_wp2
  go_ret
  exact ⟨rfl, rfl⟩
theorem dec_forms (t : Int) : ∀ I : List (Int × List Int × Int), ((decI t I).map fun x => (x.1, x.2.1)) = I.map fun x => (x.1, x.2.1)
  | [] => rfl
  | x :: xs => by
    by_cases e : x.1 = t
    · simp [decI, e]
    · simp [decI, e, dec_forms t xs]
theorem lg_app {a : Ad} {t : Int} {f : List Int} {k : Int} (hf : fi t a.I = some (f, k)) (h0 : k ≠ 0) (h1 : k ≠ 1) : L.appE a.lg t = 0 ∧ L.appS a.lg t = (a.appS t).lg ∧ a.appE t = 0 := by
  have e1 : L.look t a.lg.L = some k := by show L.look t (lefts a.I) = _; rw [look_lefts, hf]; rfl
  have e2 : a.appE t = 0 := by simp [Ad.appE, hf, h1]
  refine ⟨by simp [L.appE, e1, h0], ?_, e2⟩
  unfold L.appS
  rw [e1]
  simp only [if_neg h0]
  unfold Ad.appS
  rw [if_pos e2]
  simp only [Ad.lg, lefts_dec hf]
theorem left_some {a : Ad} {t : Int} {f : List Int} {k : Int} (hf : fi t a.I = some (f, k)) : a.leftN t = k ∧ a.leftB t = true := by simp [Ad.leftN, Ad.leftB, hf]
theorem left_none {a : Ad} {t : Int} (hf : fi t a.I = none) : a.leftN t = 0 ∧ a.leftB t = false := by simp [Ad.leftN, Ad.leftB, hf]
set_option maxHeartbeats 1000000 in
set_option maxRecDepth 100000 in
theorem append_at (h : PL w F n a) (hn : n < 10000) {t : Int} (ht : L.U64 t) : Calls Tryz.prog 35 #[qp F.Q, .int .u64 t] w fun e w' => e = .returned (.int .i64 (a.appE t)) ∧ PL w' F (n + 1) (a.appS t) ∧ Kept F.has w w' := by
  have c9 : w.cell? ⟨F.Q, 9, none⟩ = some (qp F.lb) := h.c 9
  have H : Hid (PL w F n a) := h
  have HC := left_at h ht
  clear h
  cases hf : fi t a.I with
  | none =>
    rw [(left_none hf).1, (left_none hf).2] at HC
    have e1 : Hid (a.appE t = 110) := by show _ = _; simp [Ad.appE, hf]
    have e2 : Hid (a.appS t = a) := by show _ = _; simp [Ad.appS, e1.out]
    have HC' : Hid (Calls Tryz.prog 69 #[qp F.Q, .int .u64 t] w fun e w' => e = .returned (.tuple #[.int .i64 0, .bool false]) ∧ w' = w) := HC
    clear HC hf
    go_enter Tryz.func35, Tryz.ntmps35
    go_wp2_with (go_at_call 69; refine HC'.out.mono ?_; rintro e w' ⟨rfl, rfl⟩)
    go_ret
    exact ⟨by rw [e1.out]; rfl, by rw [e2.out]; exact H.out.mono (Nat.le_succ _), Kept.refl _ _⟩
  | some x =>
    obtain ⟨f, k⟩ := x
    rw [(left_some hf).1, (left_some hf).2] at HC
    have HC' : Hid (Calls Tryz.prog 69 #[qp F.Q, .int .u64 t] w fun e w' => e = .returned (.tuple #[.int .i64 k, .bool true]) ∧ w' = w) := HC
    have h3 := H.out.ok.iform _ (fi_mem hf)
    simp only at h3
    clear HC
    by_cases hk : k = 1
    · have e1 : Hid (a.appE t = 120) := by show _ = _; simp [Ad.appE, hf, hk]
      have e2 : Hid (a.appS t = a) := by show _ = _; simp [Ad.appS, e1.out]
      subst hk
      clear hf h3
      go_enter Tryz.func35, Tryz.ntmps35
      go_wp2_with (go_at_call 69; refine HC'.out.mono ?_; rintro e w' ⟨rfl, rfl⟩)
      go_ret
      exact ⟨by rw [e1.out]; rfl, by rw [e2.out]; exact H.out.mono (Nat.le_succ _), Kept.refl _ _⟩
    · have h0 : k ≠ 0 := by omega
      have HG : Hid (_) := lg_app hf h0 hk
      have hb : (k == 1) = false := by rw [beq_eq_false_iff_ne]; exact hk
      have HF : Hid (fi t a.I = some (f, k)) := hf
      clear hf h3 hk
      go_enter Tryz.func35, Tryz.ntmps35
      go_wp2_with (first | (go_at_call 69; refine HC'.out.mono ?_; rintro e w' ⟨rfl, rfl⟩) | (go_at_call 70; refine (L.append_at H.out.rm H.out.ok.lok hn ht).mono ?_; rintro e w2 ⟨rfl, h1, h2⟩; have HR : Hid (L.LAt w2 F.lb F.lm (n + 1) (L.appS a.lg t) ∧ Kept (L.LF F.lb F.lm) _ w2) := ⟨h1, h2⟩; clear h1 h2))
      go_ret
      refine ⟨by rw [HG.out.2.2, ← HG.out.1]; rfl, ?_, HR.out.2.wider fun x _ e => PL.hasL F e⟩
      have hr := HR.out.1
      rw [HG.out.2.1] at hr
      have hok := H.out.ok.app t
      unfold Ad.appS at hr hok ⊢
      rw [if_pos HG.out.2.2] at hr hok ⊢
      refine H.out.led HR.out.2 hr (Nat.le_succ _) rfl rfl (it_dec t a.I) rfl rfl (fun x hx => ?_) hok
      have e3 : ({ a with used := a.used + 1, I := decI t a.I } : Ad).fl = a.fl := by simp only [Ad.fl, dec_forms]
      rw [e3] at hx
      exact hx
set_option maxHeartbeats 1000000 in
set_option maxRecDepth 100000 in
theorem append_nil (w : World) (t : Int) : Calls Tryz.prog 35 #[nilq, .int .u64 t] w fun e w' => e = .returned (.int .i64 1) ∧ w' = w := by
  go_enter Tryz.func35, Tryz.ntmps35
  go_wp2_with (go_at_call 69; refine (left_nil _ _).mono ?_; rintro e w' ⟨rfl, rfl⟩)
  go_ret
  exact ⟨rfl, rfl⟩
/-- what out turns -/
def OF (F : Ft) (b : Nat) : Prop := b = F.mb ∨ b = F.q2 ∨ blk F.v2 = some b ∨ b = F.lb ∨ b = F.lm
theorem OF.has {F : Ft} {b : Nat} (h : OF F b) : F.has b := by
  rcases h with rfl | rfl | e | rfl | rfl
  · exact .inr (.inr (.inr (.inr (.inr (.inl rfl)))))
  · exact .inr (.inr (.inl rfl))
  · exact .inr (.inr (.inr (.inr (.inl e))))
  · exact .inr (.inr (.inr (.inr (.inr (.inr (.inl rfl))))))
  · exact .inr (.inr (.inr (.inr (.inr (.inr (.inr rfl))))))
set_option maxHeartbeats 1000000 in
set_option maxRecDepth 100000 in
theorem out_at {M : Int → Option Value} {zs : List Int} {m : Int} {s : L.Lg} {k : Nat} (N : Ne F) (c7 : w.cell? ⟨F.Q, 7, none⟩ = some (qp F.q2)) (c8 : w.cell? ⟨F.Q, 8, none⟩ = some (.map (some F.mb))) (c9 : w.cell? ⟨F.Q, 9, none⟩ = some (qp F.lb)) (hm : VMp w F.mb n M) (hq : QAt 59 w F.q2 F.v2 zs m) (hr : L.LAt w F.lb F.lm k s) (ok : L.Ok s) {t : Int} (hu : L.U64 t) (ht : t ∈ zs) (hl : zs.length ≤ 1000) :
    Calls Tryz.prog 71 #[qp F.Q, .int .u64 t] w fun e w' => e = .returned (.int .i64 (L.clsE s t)) ∧ VMp w' F.mb n (fun u => if u = t then none else M u) ∧ (∃ v', QAt 59 w' F.q2 v' (zs.erase t) m ∧ blk v' = blk F.v2) ∧ L.LAt w' F.lb F.lm (k + 1) (L.clsS s t) ∧ Kept (OF F) w w' := by
  have HM : Hid (VMp w F.mb n M) := hm
  have HQ : Hid (QAt 59 w F.q2 F.v2 zs m) := hq
  have HR : Hid (L.LAt w F.lb F.lm k s) := hr
  have hQlt : F.Q < w.heap.size := World.block_lt_of_cell? w _ c7
  have C7 : Hid (_) := c7
  have C9 : Hid (_) := c9
  clear hm hq hr c7 c9
  go_enter Tryz.func71, Tryz.ntmps71
  go_wp2_with (first
    | (at_delete; refine wpList_delete_v rfl (.tmp 8) (.tmp 9) rfl M rfl HM.out t hu rfl ?_; intro w1 h1 h2; have H1 : Hid (VMp w1 F.mb n (fun u => if u = t then none else M u) ∧ Kept (· = F.mb) w w1) := ⟨h1, h2⟩; clear h1 h2; have d7 : w1.cell? ⟨F.Q, 7, none⟩ = some (qp F.q2) := (World.cell?_of_block (w := w) (a := ⟨F.Q, 7, none⟩) (H1.out.2.block _ hQlt N.Qm)).trans C7.out; have Q1 : Hid (QAt 59 w1 F.q2 F.v2 zs m) := HQ.out.far H1.out.2 N.q2m (fun g hg => (N.v2 g hg).2.2.2.1); have R1 : Hid (L.LAt w1 F.lb F.lm k s) := HR.out.kept (H1.out.2.block _ HR.out.lt (Ne.symm N.ml)) (H1.out.2.block _ HR.out.mp.lt (Ne.symm N.mn)))
    | (go_at_call 72; refine (drop_in Q1.out t ht (by omega)).mono ?_; rintro e w2 ⟨rfl, v', h1, h2, h3⟩; have H2 : Hid (QAt 59 w2 F.q2 v' (zs.erase t) m ∧ blk v' = blk F.v2 ∧ Kept (fun b => b = F.q2 ∨ blk F.v2 = some b) w1 w2) := ⟨h1, h2, h3⟩; clear h1 h2 h3; have hQ1 : F.Q < w1.heap.size := Nat.lt_of_lt_of_le hQlt H1.out.2.size; have d9 : w2.cell? ⟨F.Q, 9, none⟩ = some (qp F.lb) := (World.cell?_of_block (w := w1) (a := ⟨F.Q, 9, none⟩) (H2.out.2.2.block _ hQ1 (by rintro (e | e); exact N.Qq2 e; exact (N.v2 _ e).1 rfl))).trans ((World.cell?_of_block (w := w) (a := ⟨F.Q, 9, none⟩) (H1.out.2.block _ hQlt N.Qm)).trans C9.out); have R2 : Hid (L.LAt w2 F.lb F.lm k s) := R1.out.kept (H2.out.2.2.block _ R1.out.lt (by rintro (e | e); exact N.q2l e.symm; exact (N.v2 _ e).2.2.2.2.1 rfl)) (H2.out.2.2.block _ R1.out.mp.lt (by rintro (e | e); exact N.q2n e.symm; exact (N.v2 _ e).2.2.2.2.2 rfl)))
    | (go_at_call 94; refine (L.close_at R2.out ok hu).mono ?_; rintro e w3 ⟨rfl, h1, h2⟩; have H3 : Hid (L.LAt w3 F.lb F.lm (k + 1) (L.clsS s t) ∧ Kept (L.LF F.lb F.lm) w2 w3) := ⟨h1, h2⟩; clear h1 h2))
  go_ret
  refine ⟨rfl, ?_, ⟨v', ?_, H2.out.2.1⟩, H3.out.1, ?_⟩
  · refine (H1.out.1.kept (H2.out.2.2.block _ H1.out.1.lt (by rintro (e | e); exact N.q2m e.symm; exact (N.v2 _ e).2.2.2.1 rfl))).kept (H3.out.2.block _ (Nat.lt_of_lt_of_le H1.out.1.lt H2.out.2.2.size) (by rintro (e | e); exact N.ml e; exact N.mn e))
  · exact H2.out.1.far H3.out.2 (by rintro (e | e); exact N.q2l e; exact N.q2n e) (fun g hg => by rw [H2.out.2.1] at hg; rintro (e | e); exact (N.v2 g hg).2.2.2.2.1 e; exact (N.v2 g hg).2.2.2.2.2 e)
  · refine ((H1.out.2.wider (T := OF F) (fun x _ e => .inl e)).trans H2.out.2.2 (fun x _ e => ?_)).trans H3.out.2 (fun x _ e => ?_)
    · rcases e with e | e
      · exact .inr (.inl e)
      · exact .inr (.inr (.inl e))
    · rcases e with e | e
      · exact .inr (.inr (.inr (.inl e)))
      · exact .inr (.inr (.inr (.inr e)))
theorem cutI_ne {t : Int} : ∀ {I : List (Int × List Int × Int)}, (it I).Nodup → ∀ x ∈ cutI t I, x.1 ≠ t
  | [], _, x, hx => by simp [cutI] at hx
  | y :: ys, h, x, hx => by
    have h2 := List.nodup_cons.1 h
    by_cases e : y.1 = t
    · simp only [cutI, if_pos e] at hx
      intro e2
      exact h2.1 (by rw [e, ← e2]; exact List.mem_map.2 ⟨x, hx, rfl⟩)
    · simp only [cutI, if_neg e, List.mem_cons] at hx
      rcases hx with rfl | hx
      · exact e
      · exact cutI_ne h2.2 x hx
theorem fi_it {t : Int} {I : List (Int × List Int × Int)} {x : List Int × Int} (h : fi t I = some x) : t ∈ it I := List.mem_map.2 ⟨(t, x.1, x.2), fi_mem h, rfl⟩
/-- behind out the line is one with the ticket gone -/
theorem PL.outd {t u : Int} {k : Nat} {v' : Value} {M : Int → Option Value} (h : PL w F n a) (_hm : VMp w F.mb n M) (hs : ∀ t v, M t = some v → ∃ p n c, v = .slice p n c) (hf : ∀ x ∈ a.fl, ∃ v, M x.1 = some v ∧ Frm w v x.2 ∧ ∀ g, blk v = some g → F.G g) {f : List Int} {x : Int} (hfi : fi t a.I = some (f, x)) (hk : Kept (OF F) w w') (hn : n ≤ k)
    (hm' : VMp w' F.mb n (fun u => if u = t then none else M u)) (hq : QAt 59 w' F.q2 v' ((it a.I).erase t) a.got) (hb : blk v' = blk F.v2) (hr : L.LAt w' F.lb F.lm k ({ a with used := u, I := cutI t a.I } : Ad).lg) (ok : ({ a with used := u, I := cutI t a.I } : Ad).Ok) :
    PL w' { F with v2 := v' } k { a with used := u, I := cutI t a.I } := by
  have N := h.ne
  have hint : ∀ g, kd w g = 3 → ¬ OF F g := fun g hg e => h.noInts hg e.has
  have hnd : (it a.I).Nodup := nd_of h.ok.irise
  refine ⟨?_, ?_, ?_, ?_, hr, ok, h.q12, fun g hg => by rw [hb]; exact h.v12 g hg, h.mm⟩
  · exact (hk.block _ (h.lt (.inl rfl)) (by rintro (e | e | e | e | e); exact N.Qm e; exact N.Qq2 e; exact (N.v2 _ e).1 rfl; exact N.Ql e; exact N.Qn e)).trans h.st
  · exact h.l1.far hk (by rintro (e | e | e | e | e); exact N.q1m e; exact N.q12 e; exact (N.v2 _ e).2.1 rfl; exact N.q1l e; exact N.q1n e) (fun g hg => by have e1 := N.v1 g hg; rintro (e | e | e | e | e); exact e1.2.2.2.1 e; exact e1.2.2.1 e; exact N.v12 g hg e; exact e1.2.2.2.2.1 e; exact e1.2.2.2.2.2 e)
  · show QAt _ _ _ _ (it (cutI t a.I)) _
    rw [it_cut]
    exact hq
  · refine ⟨_, hm'.mono hn, fun y v hv => ?_, fun y hy => ?_⟩
    · by_cases e : y = t
      · rw [if_pos e] at hv; cases hv
      · rw [if_neg e] at hv; exact hs y v hv
    · have hy' : y ∈ a.fl ∧ y.1 ≠ t := by
        rcases List.mem_append.1 hy with hy | hy
        · refine ⟨List.mem_append.2 (.inl hy), fun e => ?_⟩
          have h1 := h.ok.win y hy
          have h2 := h.ok.iin _ (fi_mem hfi)
          simp only at h2
          omega
        · obtain ⟨z, hz, rfl⟩ := List.mem_map.1 hy
          exact ⟨List.mem_append.2 (.inr (List.mem_map.2 ⟨z, (cutI_sub t a.I).subset hz, rfl⟩)), cutI_ne hnd z hz⟩
      obtain ⟨v, hv, hfr, hG⟩ := hf y hy'.1
      exact ⟨v, by rw [if_neg hy'.2]; exact hv, hfr.far hk (fun g _ => hint g), hG⟩
theorem cut_set (t v : Int) : ∀ l : List (Int × Int), L.cut t (L.set t v l) = L.cut t l
  | [] => rfl
  | x :: xs => by
    by_cases e : x.1 = t
    · simp [L.cut, L.set, e]
    · simp [L.cut, L.set, e, cut_set t v xs]
theorem Ft.has_v2 {F : Ft} {v' : Value} (hb : blk v' = blk F.v2) (b : Nat) : ({ F with v2 := v' } : Ft).has b ↔ F.has b := by simp only [Ft.has, hb]
set_option maxHeartbeats 1000000 in
set_option maxRecDepth 100000 in
theorem done_at (h : PL w F n a) (hn : n < 10000) (hN : a.next ≤ 1000) {t : Int} (ht : L.U64 t) : Calls Tryz.prog 36 #[qp F.Q, .int .u64 t] w fun e w' => e = .returned (.int .i64 (a.donE t)) ∧ ∃ v', PL w' { F with v2 := v' } (n + 2) (a.donS t) ∧ blk v' = blk F.v2 ∧ Kept F.has w w' := by
  have c9 : w.cell? ⟨F.Q, 9, none⟩ = some (qp F.lb) := h.c 9
  have H : Hid (PL w F n a) := h
  clear h
  cases hf : fi t a.I with
  | none =>
    have e0 : L.look t a.lg.L = none := by show L.look t (lefts a.I) = _; rw [look_lefts, hf]; rfl
    have e1 : Hid (a.donE t = 110 ∧ a.donS t = a ∧ L.appE a.lg t = 110 ∧ L.appS a.lg t = a.lg) := ⟨by simp [Ad.donE, hf], by simp [Ad.donS, Ad.donE, hf], by simp [L.appE, e0], by simp [L.appS, e0]⟩
    clear hf e0
    go_enter Tryz.func36, Tryz.ntmps36
    go_wp2_with (go_at_call 70; refine (L.append_at H.out.rm H.out.ok.lok hn ht).mono ?_; rw [e1.out.2.2.1, e1.out.2.2.2]; rintro e w2 ⟨rfl, h1, h2⟩; have HR : Hid (L.LAt w2 F.lb F.lm (n + 1) a.lg ∧ Kept (L.LF F.lb F.lm) _ w2) := ⟨h1, h2⟩; clear h1 h2)
    go_ret
    exact ⟨by rw [e1.out.1]; rfl, F.v2, by rw [e1.out.2.1]; exact (H.out.led HR.out.2 HR.out.1 (Nat.le_succ _) rfl rfl rfl rfl rfl (fun x hx => hx) H.out.ok).mono (by omega), rfl, HR.out.2.wider fun x _ e => PL.hasL F e⟩
  | some x =>
    obtain ⟨f, k⟩ := x
    have h3 := H.out.ok.iform _ (fi_mem hf)
    simp only at h3
    have h0 : k ≠ 0 := by omega
    have e0 : L.look t a.lg.L = some k := by show L.look t (lefts a.I) = _; rw [look_lefts, hf]; rfl
    have e1 : Hid (a.donE t = 0 ∧ a.donS t = { a with used := a.used + 1, I := cutI t a.I } ∧ L.appE a.lg t = 0 ∧ L.appS a.lg t = { a.lg with used := a.used + 1, L := L.set t (k - 1) (lefts a.I) }) := ⟨by simp [Ad.donE, hf], by simp [Ad.donS, Ad.donE, hf], by simp [L.appE, e0, h0], by simp [L.appS, e0, h0]; exact ⟨rfl, rfl⟩⟩
    have HF : Hid (fi t a.I = some (f, k)) := hf
    have hmem : Hid (t ∈ it a.I) := fi_it hf
    have hl : Hid ((it a.I).length ≤ 1000) := by show _ ≤ _; have := H.out.ok.ilen; simp only [it, List.length_map]; omega
    clear hf e0 h3 h0
    obtain ⟨M, hm, hms, hmf⟩ := H.out.fm
    have HM : Hid (VMp w F.mb n M ∧ (∀ t v, M t = some v → ∃ p n c, v = .slice p n c) ∧ ∀ x ∈ a.fl, ∃ v, M x.1 = some v ∧ Frm w v x.2 ∧ ∀ g, blk v = some g → F.G g) := ⟨hm, hms, hmf⟩
    clear hm hms hmf
    have N := H.out.ne
    go_enter Tryz.func36, Tryz.ntmps36
    go_wp2_with (first
      | (go_at_call 70; refine (L.append_at H.out.rm H.out.ok.lok hn ht).mono ?_; rw [e1.out.2.2.1]; rintro e w2 ⟨rfl, h1, h2⟩; have HR : Hid (L.LAt w2 F.lb F.lm (n + 1) (L.appS a.lg t) ∧ Kept (L.LF F.lb F.lm) w w2 ∧ L.Ok (L.appS a.lg t)) := ⟨h1, h2, H.out.ok.lok.app t⟩; clear h1 h2; have HP : Hid (w2.heap[F.Q]? = some (.cells (lcells F a) 62 (0, 0)) ∧ QAt 59 w2 F.q2 F.v2 (it a.I) a.got ∧ VMp w2 F.mb n M) := ⟨(HR.out.2.1.block _ (H.out.lt (.inl rfl)) (by rintro (e | e); exact N.Ql e; exact N.Qn e)).trans H.out.st, H.out.l2.far HR.out.2.1 (by rintro (e | e); exact N.q2l e; exact N.q2n e) (fun g hg => by rintro (e | e); exact (N.v2 g hg).2.2.2.2.1 e; exact (N.v2 g hg).2.2.2.2.2 e), HM.out.1.kept (HR.out.2.1.block _ HM.out.1.lt (by rintro (e | e); exact N.ml e; exact N.mn e))⟩)
      | (go_at_call 71; refine (out_at N (cell_of_row _ F.Q 7 _ 62 (0, 0) HP.out.1) (cell_of_row _ F.Q 8 _ 62 (0, 0) HP.out.1) (cell_of_row _ F.Q 9 _ 62 (0, 0) HP.out.1) HP.out.2.2 HP.out.2.1 HR.out.1 HR.out.2.2 ht hmem.out hl.out).mono ?_; rintro e w3 ⟨rfl, h1, ⟨v', h2, h2'⟩, h3, h4⟩; have HO : Hid (VMp w3 F.mb n (fun u => if u = t then none else M u) ∧ QAt 59 w3 F.q2 v' ((it a.I).erase t) a.got ∧ blk v' = blk F.v2 ∧ L.LAt w3 F.lb F.lm (n + 1 + 1) (L.clsS (L.appS a.lg t) t) ∧ Kept (OF F) w2 w3) := ⟨h1, h2, h2', h3, h4⟩; clear h1 h2 h2' h3 h4))
    go_ret
    have hkk : Kept (OF F) w w3 := (HR.out.2.1.wider (T := OF F) (fun x _ e => by rcases e with e | e; exact .inr (.inr (.inr (.inl e))); exact .inr (.inr (.inr (.inr e))))).trans HO.out.2.2.2.2 (fun _ _ e => e)
    have ecl : L.clsE (L.appS a.lg t) t = 0 := by
      rw [e1.out.2.2.2]
      have : L.look t (L.set t (k - 1) (lefts a.I)) = some (k - 1) := by rw [L.look_set (n := k) (by rw [look_lefts, HF.out]; rfl)]; simp
      simp [L.clsE, this]
    have els : L.clsS (L.appS a.lg t) t = ({ a with used := a.used + 1, I := cutI t a.I } : Ad).lg := by
      rw [e1.out.2.2.2]
      simp only [L.clsS, cut_set, Ad.lg, lefts_cut]
    have hok := H.out.ok.don t
    rw [e1.out.2.1] at hok
    refine ⟨by rw [e1.out.1, ← ecl]; rfl, v', ?_, HO.out.2.2.1, hkk.wider fun x _ e => e.has⟩
    rw [e1.out.2.1]
    have hr := HO.out.2.2.2.1
    rw [els] at hr
    exact H.out.outd HM.out.1 HM.out.2.1 HM.out.2.2 HF.out hkk (by omega) HO.out.1 HO.out.2.1 HO.out.2.2.1 hr hok
set_option maxHeartbeats 1000000 in
set_option maxRecDepth 100000 in
theorem done_nil (w : World) (t : Int) : Calls Tryz.prog 36 #[nilq, .int .u64 t] w fun e w' => e = .returned (.int .i64 1) ∧ w' = w := by
  go_enter Tryz.func36, Tryz.ntmps36
  go_wp2
  go_ret
  exact ⟨rfl, rfl⟩
end
end Go.Proofs.YtkgjmejpbklabaaGreat.M
