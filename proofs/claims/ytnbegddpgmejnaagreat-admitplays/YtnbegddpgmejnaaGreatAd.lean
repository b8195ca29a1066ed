/-
  Layer 13: what only reads a line.
-/
import Derived.Test.YtnbegddpgmejnaaGreatAc
namespace Go.Proofs.YtnbegddpgmejnaaGreat
open Go.RowKit


open Go.Shelf
attribute [local go_sem] Oper.semAt_some
/-- a list of tickets that a call has made -/
structure MadeU (w w' : World) (v : Value) (xs : List Int) : Prop where
  own : w'.ownsRow w.heap.size 44 1 v xs.length (V64 xs)
  below : Below w.heap.size w w'
theorem MadeU.read {w w' : World} {v : Value} {xs : List Int} (h : MadeU w w' v xs) : ∃ p c, v = .slice p xs.length c ∧ UIn w' p xs.length xs ∧ xs.length ≤ c ∧ (p = none → c = 0) := (Row.own h.own).1.form
set_option maxRecDepth 100000 in
set_option maxHeartbeats 2000000 in
theorem appendSeqU_at (Q B : Nat) (v : Value) (m : Int) (zs : List Int) (w : World) (hQ : QAt 64 w Q v zs m) (hB : B < w.heap.size) (hc : w.cell? ⟨B, 0, none⟩ = some (qp Q)) (hn : zs.length ≤ 1000) :
    Calls Tryz.prog 78 #[nils, seqV B] w fun e w' => ∃ v', e = .returned v' ∧ MadeU w w' v' zs := by
  obtain ⟨i0, hi, hz0, hz1, hz2⟩ := info_parts info26
  refine (callsIn_wide (n := 9)).1 ?_
  refine callsIn_of_wp_marks Tryz.func78 rfl trivial ?_ rfl
  simp only [Tryz.ntmps78, List.size_toArray, List.length_cons, List.length_nil, Nat.reduceAdd, Nat.reduceSub, Array.replicate_succ, Array.replicate_zero, List.push_toArray, List.append_toArray, List.nil_append, List.cons_append]
  gi_wp2
  have bL := Boxed.new w 62 nils
  have hB0 : Below w.heap.size w (w.alloc (.cells #[nils] 62)) := below_alloc w _
  have hcB : (w.alloc (.cells #[nils] 62)).cell? ⟨B, 0, none⟩ = some (qp Q) := (hB0.cell (p := ⟨B, 0, none⟩) hB).trans hc
  have hsz : (w.alloc (.cells #[nils] 62)).heap.size = w.heap.size + 1 := by simp
  obtain ⟨W0, hW0⟩ : ∃ W0, w.alloc (.cells #[nils] 62) = W0 := ⟨_, rfl⟩
  rw [hW0] at bL hB0 hcB hsz ⊢
  clear hW0
  refine wpIn_rangeFunc_ownG (F := Fence.wide) (n := 9) (P := Tryz.prog) rfl (by decide) (gf := 79) (lb := #[.pointer (some ⟨B, 0, none⟩)]) rfl trivial (enters_of Tryz.func79 (by kernel_rfl) rfl)
    (all_stops Fence.wide (9 - 1) trivial rfl (by decide) B w.heap.size (some ⟨Q, 0, none⟩) zs (by omega) W0 w (by omega) (by omega) hB0 rfl hcB (.inr ⟨Q, v, m, rfl, hQ⟩)) belowK_t (belowK_b (by omega)) (Below.refl _ _) (fun _ => rfl)
    (fun pre W => (∃ v, Boxed W w.heap.size 62 v ∧ W.ownsRow w.heap.size 44 1 v pre.length (V64 pre) ∧ True) ∧ Below w.heap.size w W) (fun c pre W => False)
    (OwnFrom.and (Own.from (holdsRow_own w.heap.size w.heap.size 62 44 1 (fun pre : List Int => pre.length) (fun pre : List Int => V64 pre) (fun _ _ => True)) _) (ownFrom_below (Nat.le_refl _) (by omega))) (fun c => ownFrom_pure _ _)
    ⟨⟨_, bL, World.ownsRow_nil _ _ _ _, trivial⟩, hB0⟩
    (fun x => { tmps := #[nils, seqV B, .pointer (some ⟨w.heap.size, 0, none⟩), undef, nils, .int .u64 x, seqV B, .int .u64 x, undef, undef, undef, undef, undef], defers := [] }) ?assign ?body ?done ?stop
  case assign =>
    intro l x W K hK
    gi_wp2
    exact hK
  case body =>
    rintro l pre x W ⟨⟨v, hv, hrow, _⟩, hB⟩ hlt
    have hc := hv.cell
    have hle := hB.size
    have hml : 10001 ≤ maxLen := by decide
    obtain ⟨pv, cv, rfl, _, _, _⟩ := (Row.own hrow).1.form
    gi_wp2_with (gi_at_builtin; refine wpListIn_append_own _ rfl _ _ 62 rfl w.heap.size 44 i0 (.int .u64 0) 1 8 Tryz.underlying62 hi hz0 hz1 hz2 rfl (by decide) _ _ _ rfl (hrow.alloc _) ⟨W.heap.size, 0, none⟩ 1 1 [.int .u64 x] rfl rfl (cell_one_new _ _ _) (by simp [Value.oneCell']) (by omega) (by omega) (by simp; omega) ?_; intro v' w1 hown' hgrow _; obtain ⟨g', cap', rfl⟩ := ownsRow_succ hown'; obtain ⟨hv1, hv2, hr2, hk2, hb2⟩ := hv.appended (by decide) hrow hle (Nat.le_refl _) hown' hgrow; have hc1 := hv1.cell; have hf1 := hv1.frozen; have hc2 := hv2.cell)
    rw [show V64 pre ++ [Value.int .u64 x] = V64 (pre ++ [x]) by simp [V64], show pre.length + 1 = (pre ++ [x]).length by simp] at hr2
    exact ⟨hk2.from _, hb2, ⟨_, hv2, by simpa using hr2, trivial⟩, hB.trans hb2⟩
  case done =>
    rintro D ys W hD hSt ⟨⟨v, hv, hrow, _⟩, hB⟩ hK
    subst hSt
    obtain ⟨pv, cv, rfl, _, _, _⟩ := (Row.own hrow).1.form
    have hc := hv.cell
    have HR : Hid (W.ownsRow w.heap.size 44 1 (.slice pv ys.length cv) ys.length (V64 ys)) := hrow
    have HB : Hid (Below w.heap.size w W) := hB
    clear hrow hB hv
    gi_wp2
    refine ⟨by simp, .inl ⟨_, _, rfl, run_takeDeferred hK, ?_⟩⟩
    exact ⟨_, by simp [results, Tryz.results78, go_sem], _, rfl, ownsRow_putObj HR.out (.deferred none) hK rfl, HB.out.trans (belowK_b (w := w) (Nat.le_refl _) _ D _ _ (by omega) hK rfl rfl)⟩
  case stop =>
    rintro D c pre W hD hpre hf hK
    exact hf.elim
set_option maxHeartbeats 1000000 in
set_option maxRecDepth 100000 in
theorem collectU_at (Q B : Nat) (v : Value) (m : Int) (zs : List Int) (w : World) (hQ : QAt 64 w Q v zs m) (hB : B < w.heap.size) (hc : w.cell? ⟨B, 0, none⟩ = some (qp Q)) (hn : zs.length ≤ 1000) :
    Calls Tryz.prog 67 #[seqV B] w fun e w' => ∃ v', e = .returned v' ∧ MadeU w w' v' zs := by
  go_enter Tryz.func67, Tryz.ntmps67
  go_wp2_with (go_at_call 78; refine (appendSeqU_at Q B v m zs w hQ hB hc hn).mono ?_; rintro e w' ⟨v', rfl, hm⟩)
  go_ret
  exact ⟨v', rfl, hm⟩
section
variable {w : World} {F : Ft} {n : Nat} {a : Ad}
set_option maxHeartbeats 1000000 in
set_option maxRecDepth 100000 in
theorem in_at (h : PL w F n a) (hN : a.next ≤ 1000) : Calls Tryz.prog 43 #[qp F.Q] w fun e w' => ∃ v, e = .returned v ∧ MadeU w w' v (it a.I) := by
  have hl : (it a.I).length ≤ 1000 := by have := h.ok.ilen; simp only [it, List.length_map]; omega
  have c7 : w.cell? ⟨F.Q, 7, none⟩ = some (qp F.q2) := h.c 7
  have HQ : Hid (QAt 64 (w.alloc (.cells #[qp F.q2] 61)) F.q2 F.v2 (it a.I) a.got) := h.l2.later (below_alloc w _)
  clear h
  go_enter Tryz.func43, Tryz.ntmps43
  go_wp2_with (first | (go_at_call 68; refine (all_is _ _).mono ?_; rintro e w' ⟨rfl, rfl⟩) | (go_at_call 67; refine (collectU_at F.q2 w.heap.size F.v2 a.got (it a.I) _ HQ.out (by simp) (Boxed.cell (Boxed.new w 61 (qp F.q2))) hl).mono ?_; rintro e w' ⟨v', rfl, hm⟩))
  go_ret
  exact ⟨v', rfl, B.own_mono hm.own (by simp), below_then (below_alloc w _) hm.below⟩
set_option maxHeartbeats 1000000 in
set_option maxRecDepth 100000 in
theorem in_nil (w : World) : Calls Tryz.prog 43 #[nilq] w fun e w' => e = .returned nils ∧ w' = w := by
  go_enter Tryz.func43, Tryz.ntmps43
  go_wp2
  go_ret
  exact ⟨rfl, rfl⟩
theorem waiting_at (h : PL w F n a) (hN : a.next ≤ 1000) : Calls Tryz.prog 42 #[qp F.Q] w fun e w' => ∃ v, e = .returned v ∧ MadeU w w' v (wt a.W) := by
  have hl : (wt a.W).length ≤ 1000 := by have := h.ok.wlen; simp only [wt, List.length_map]; omega
  obtain ⟨m, hm, hs, _⟩ := h.fm
  refine (waiting_seq (h.sq hN m hm hs) hl).mono ?_
  rintro e w' ⟨v, xs, hS, rfl, ho, hb⟩
  have e1 : xs.map TV.t = wt a.W := by
    have := congrArg (List.map Prod.fst) hS
    simpa [its, Function.comp_def] using this
  have e2 : xs.length = (wt a.W).length := by rw [← e1]; simp
  rw [e1, e2] at ho
  exact ⟨v, rfl, ho, hb⟩
theorem waiting_nil (w : World) : Calls Tryz.prog 42 #[nilq] w fun e w' => ∃ v, e = .returned v ∧ MadeU w w' v [] := by
  refine (waiting_seq (nil_sq w) (by omega)).mono ?_
  rintro e w' ⟨v, xs, rfl, rfl, ho, hb⟩
  exact ⟨v, rfl, ho, hb⟩
theorem first_at (h : PL w F n a) (hN : a.next ≤ 1000) : Calls Tryz.prog 48 #[qp F.Q] w fun e w' => ∃ v, e = .returned (.tuple #[.int .u64 a.fT, v, .bool a.isW]) ∧ Frm w' v a.fF ∧ Below w.heap.size w w' := by
  obtain ⟨m, hm, hs, hf⟩ := h.fm
  refine (first_seq (h.sq hN m hm hs)).mono ?_
  rintro e w' ⟨hb, (⟨hS, rfl⟩ | ⟨x, hS, rfl⟩)⟩
  · have hW : a.W = [] := by
      have := congrArg List.length hS
      simp only [its, wt, List.length_map, List.length_nil] at this
      exact List.eq_nil_of_length_eq_zero this.symm
    refine ⟨nils, ?_, ?_, hb⟩
    · simp [Ad.fT, Ad.isW, hW]
    · simp only [Ad.fF, hW]; exact Frm.nil w'
  · cases hW : a.W with
    | nil => rw [hW] at hS; simp [its, wt] at hS
    | cons y r =>
      rw [hW] at hS
      simp only [its, wt, List.map_cons, List.map_nil, List.cons_prefix_cons, List.nil_prefix, and_true] at hS
      obtain ⟨v, hv, hfr, _⟩ := hf y (by simp [Ad.fl, hW])
      rw [hv] at hS
      simp only [Option.getD_some, TV.two, Prod.mk.injEq] at hS
      refine ⟨x.val, ?_, ?_, hb⟩
      · simp [Ad.fT, Ad.isW, hW, hS.1]
      · simp only [Ad.fF, hW]
        rw [hS.2]
        exact hfr.later hb
theorem first_nilL (w : World) : Calls Tryz.prog 48 #[nilq] w fun e w' => e = .returned (.tuple #[.int .u64 0, nils, .bool false]) ∧ Below w.heap.size w w' := by
  refine (first_seq (nil_sq w)).mono ?_
  rintro e w' ⟨hb, (⟨_, rfl⟩ | ⟨x, hS, rfl⟩)⟩
  · exact ⟨rfl, hb⟩
  · exact hS.elim
set_option maxHeartbeats 1000000 in
set_option maxRecDepth 100000 in
theorem cloneI_nil (w : World) : Calls Tryz.prog 47 #[nils] w fun e w' => e = .returned nils ∧ w' = w := by
  have hnn : ∀ w : World, (binOp BinOp.eql 43 (.slice none 0 0) (.slice none 0 0)).run Tryz.prog w = .ok (.bool true) w := fun w => by kernel_rfl
  go_enter Tryz.func47, Tryz.ntmps47
  go_wp2
  go_ret
  exact ⟨rfl, rfl⟩
theorem empty_own (w : World) : (w.alloc (.cells #[] 3)).ownsRow w.heap.size 3 1 (.slice (some ⟨w.heap.size, 0, none⟩) 0 0) 0 [] := ⟨rfl, .inr ⟨w.heap.size, 0, #[], rfl, Nat.le_refl _, heap_alloc_new w _, Nat.le_refl _, Nat.zero_le _, rfl, rfl⟩⟩
set_option maxHeartbeats 1000000 in
set_option maxRecDepth 100000 in
theorem cloneI_at {v : Value} {f : List Int} (h : Frm w v f) (hf : f.length ≤ 100) : Calls Tryz.prog 47 #[v] w fun e w' => ∃ q d, e = .returned (.slice q f.length d) ∧ B.Made w w' q f.length d f := by
  obtain ⟨p, c, rfl, hI, hfc, hp0⟩ := h.read
  clear h
  cases p with
  | none =>
    obtain rfl := hp0 rfl
    obtain rfl : f = [] := List.eq_nil_of_length_eq_zero (by omega)
    refine (cloneI_nil w).mono ?_
    rintro e w' ⟨rfl, rfl⟩
    exact ⟨none, 0, rfl, B.made_nil _ (Below.refl _ _)⟩
  | some ad =>
    obtain ⟨i0, hi, hz0, hz1, hz2⟩ := info_parts B.info3
    have hml : 100 ≤ maxLen := by decide
    have HI : Hid (B.IIn w (some ad) f.length f) := hI
    clear hI
    have hnn : ∀ w : World, (binOp BinOp.eql 43 (.slice (some ad) f.length c) (.slice none 0 0)).run Tryz.prog w = .ok (.bool false) w := fun w => by kernel_rfl
    go_enter Tryz.func47, Tryz.ntmps47
    go_wp2_with (at_builtin; (refine B.wpList_append_any _ rfl (.tmp 5) (.tmp 6) 43 rfl w.heap.size 3 i0 (.int .i64 0) 8 Tryz.underlying43 hi hz0 hz1 hz2 rfl (.slice (some ⟨w.heap.size, 0, none⟩) 0 0) 0 [] rfl (empty_own w) (some ad) f.length c (B.I64 f) rfl hp0 hfc (by simp) ((HI.out.later (below_alloc w _)).newsAny) (B.ones_i64 f) (by omega) (by omega) (by simp) ?_; intro v2 w2 r2 k2; have R2 : Hid (w2.ownsRow w.heap.size 3 1 v2 f.length (B.I64 f) ∧ (w.alloc (.cells #[] 3)).grownBy w2 (some w.heap.size)) := ⟨by simpa using r2, k2⟩; clear r2 k2))
    go_ret
    have hb : Below w.heap.size w w2 := (L.Kept.of_grown R2.out.2).into (below_alloc w _) (fun b hb e => by omega) (Nat.le_refl _)
    obtain ⟨q, d, rfl, hm⟩ := B.made_of R2.out.1 hb
    exact ⟨q, d, rfl, hm⟩
theorem Ad.Ok.flen {a : Ad} (h : a.Ok) : a.fF.length ≤ 16 := by
  unfold Ad.fF
  cases hW : a.W with
  | nil => simp
  | cons x r =>
    have h1 := h.wform x (by rw [hW]; exact List.mem_cons_self ..)
    have h2 := h.may.2.2.2.2.2.1
    show x.2.length ≤ 16
    omega
set_option maxHeartbeats 1000000 in
set_option maxRecDepth 100000 in
theorem First_at (h : PL w F n a) (hN : a.next ≤ 1000) : Calls Tryz.prog 36 #[qp F.Q] w fun e w' => ∃ q d, e = .returned (.tuple #[.int .u64 a.fT, .slice q a.fF.length d, .bool a.isW]) ∧ B.Made w w' q a.fF.length d a.fF := by
  have hl := h.ok.flen
  go_enter Tryz.func36, Tryz.ntmps36
  go_wp2_with (first | (go_at_call 48; refine (first_at h hN).mono ?_; rintro e w1 ⟨v, rfl, hfr, hb⟩; have HF : Hid (Frm w1 v a.fF ∧ Below w.heap.size w w1) := ⟨hfr, hb⟩; clear hfr hb h) | (go_at_call 47; refine (cloneI_at HF.out.1 (by omega)).mono ?_; rintro e w2 ⟨q, d, rfl, hm⟩; have HM : Hid (B.Made w1 w2 q a.fF.length d a.fF) := hm; clear hm))
  go_ret3
  exact ⟨q, d, rfl, B.own_mono HM.out.own HF.out.2.size, below_then HF.out.2 HM.out.below⟩
set_option maxHeartbeats 1000000 in
set_option maxRecDepth 100000 in
theorem First_nil (w : World) : Calls Tryz.prog 36 #[nilq] w fun e w' => e = .returned (.tuple #[.int .u64 0, nils, .bool false]) ∧ Below w.heap.size w w' := by
  go_enter Tryz.func36, Tryz.ntmps36
  go_wp2_with (first | (go_at_call 48; refine (first_nilL w).mono ?_; rintro e w1 ⟨rfl, hb⟩; have HF : Hid (Below w.heap.size w w1) := hb; clear hb) | (go_at_call 47; refine (cloneI_nil w1).mono ?_; rintro e w2 ⟨rfl, rfl⟩))
  go_ret3
  exact ⟨rfl, HF.out⟩
set_option maxHeartbeats 1000000 in
set_option maxRecDepth 100000 in
theorem reservation_is (p : Option Addr) (n c : Nat) (hn : n ≤ 1000) (w : World) : Calls Tryz.prog 50 #[.slice p n c] w fun e w' => e = .returned (.int .i64 ((n : Int) + 1)) ∧ w' = w := by
  have hw : IntKind.i64.wrap ((n : Int) + 1) = (n : Int) + 1 := by rw [IntKind.wrap_i64]; omega
  go_enter Tryz.func50, Tryz.ntmps50
  go_wp2
  go_ret
  exact ⟨rfl, rfl⟩

set_option maxHeartbeats 1000000 in
set_option maxRecDepth 100000 in
theorem used_at (h : PL w F n a) : Calls Tryz.prog 20 #[qp F.Q] w fun e w' => e = .returned (.int .i64 a.used) ∧ w' = w := by
  have c9 : w.cell? ⟨F.Q, 9, none⟩ = some (qp F.lb) := h.c 9
  have HL : Hid (L.LAt w F.lb F.lm n a.lg) := h.rm
  clear h
  go_enter Tryz.func20, Tryz.ntmps20
  go_wp2_with (go_at_call 56; refine (L.used_at HL.out).mono ?_; rintro e w' ⟨rfl, rfl⟩)
  go_ret
  exact ⟨rfl, rfl⟩
set_option maxHeartbeats 1000000 in
set_option maxRecDepth 100000 in
theorem used_nil (w : World) : Calls Tryz.prog 20 #[nilq] w fun e w' => e = .returned (.int .i64 0) ∧ w' = w := by
  go_enter Tryz.func20, Tryz.ntmps20
  go_wp2
  go_ret
  exact ⟨rfl, rfl⟩

set_option maxHeartbeats 1000000 in
set_option maxRecDepth 100000 in
theorem reserved_at (h : PL w F n a) : Calls Tryz.prog 18 #[qp F.Q] w fun e w' => e = .returned (.int .i64 a.rsv) ∧ w' = w := by
  have c9 : w.cell? ⟨F.Q, 9, none⟩ = some (qp F.lb) := h.c 9
  have HL : Hid (L.LAt w F.lb F.lm n a.lg) := h.rm
  clear h
  go_enter Tryz.func18, Tryz.ntmps18
  go_wp2_with (go_at_call 54; refine (L.reserved_at HL.out).mono ?_; rintro e w' ⟨rfl, rfl⟩)
  go_ret
  exact ⟨rfl, rfl⟩
set_option maxHeartbeats 1000000 in
set_option maxRecDepth 100000 in
theorem reserved_nil (w : World) : Calls Tryz.prog 18 #[nilq] w fun e w' => e = .returned (.int .i64 0) ∧ w' = w := by
  go_enter Tryz.func18, Tryz.ntmps18
  go_wp2
  go_ret
  exact ⟨rfl, rfl⟩

set_option maxHeartbeats 1000000 in
set_option maxRecDepth 100000 in
theorem left_at (h : PL w F n a) {t : Int} (ht : L.U64 t) : Calls Tryz.prog 16 #[qp F.Q, .int .u64 t] w fun e w' => e = .returned (.tuple #[.int .i64 (a.leftN t), .bool (a.leftB t)]) ∧ w' = w := by
  have c9 : w.cell? ⟨F.Q, 9, none⟩ = some (qp F.lb) := h.c 9
  have HL : Hid (L.LAt w F.lb F.lm n a.lg) := h.rm
  have e1 : (L.look t a.lg.L).getD 0 = a.leftN t := by show (L.look t (lefts a.I)).getD 0 = _; rw [look_lefts]; rfl
  have e2 : (L.look t a.lg.L).isSome = a.leftB t := by show (L.look t (lefts a.I)).isSome = _; rw [look_lefts]; simp [Ad.leftB]
  have HC := L.left_at HL.out ht
  rw [e1, e2] at HC
  clear h HL e1 e2
  generalize a.leftN t = x at *
  generalize a.leftB t = y at *
  have HC' : Hid (Calls Tryz.prog 53 #[qp F.lb, .int .u64 t] w fun e w' => e = .returned (.tuple #[.int .i64 x, .bool y]) ∧ w' = w) := HC
  clear HC
  go_enter Tryz.func16, Tryz.ntmps16
  go_wp2_with (go_at_call 53; refine HC'.out.mono ?_; rintro e w' ⟨rfl, rfl⟩)
  go_ret2
  exact ⟨rfl, rfl⟩
set_option maxHeartbeats 1000000 in
set_option maxRecDepth 100000 in
theorem left_nil (w : World) (t : Int) : Calls Tryz.prog 16 #[nilq, .int .u64 t] w fun e w' => e = .returned (.tuple #[.int .i64 0, .bool false]) ∧ w' = w := by
  go_enter Tryz.func16, Tryz.ntmps16
  go_wp2
  go_ret2
  exact ⟨rfl, rfl⟩
theorem fits_lg {a : Ad} (hW : a.isW = true) : L.fitsS a.lg ((a.fF.length : Int) + 1) = a.fits := by
  unfold L.fitsS Ad.fits
  cases hc : a.W with
  | nil => simp [Ad.isW, hc] at hW
  | cons x r =>
    have e1 : a.fF = x.2 := by simp [Ad.fF, hc]
    have e2 : L.total a.lg.L = a.rsv := rfl
    have e3 : a.lg.used = a.used := rfl
    have e4 : a.lg.cap = a.lc := rfl
    rw [e1, e2, e3, e4]
    show decide _ = decide _
    congr 1
    exact propext ⟨fun h => by omega, fun h => by omega⟩
theorem fits_noW {a : Ad} (hW : a.isW = false) : a.fits = false := by
  cases hc : a.W with
  | nil => simp [Ad.fits, hc]
  | cons x r => simp [Ad.isW, hc] at hW
set_option maxHeartbeats 1000000 in
set_option maxRecDepth 100000 in
theorem fits_at (h : PL w F n a) (hN : a.next ≤ 1000) : Calls Tryz.prog 14 #[qp F.Q] w fun e w' => e = .returned (.bool a.fits) ∧ Below w.heap.size w w' := by
  have hl := h.ok.flen
  have HO : Hid a.Ok := h.ok
  have H : Hid (PL w F n a) := h
  clear h
  go_enter Tryz.func14, Tryz.ntmps14
  go_wp2_with fail
  refine (first_at H.out hN).mono ?_
  rintro e w1 ⟨v, rfl, hfr, hb⟩
  obtain ⟨p, c, rfl, -⟩ := hfr.read
  have HB : Hid (Below w.heap.size w w1) := hb
  have c9 : w1.cell? ⟨F.Q, 9, none⟩ = some (qp F.lb) := (H.out.later hb).c 9
  have HL : Hid (L.LAt w1 F.lb F.lm n a.lg) := (H.out.later hb).rm
  clear hfr hb
  cases hW : a.isW with
  | false =>
    have HE : Hid (a.fits = false) := fits_noW hW
    clear hW
    go_wp2_with fail
    go_quiet (fail)
    go_wp2
    go_ret
    exact ⟨by rw [HE.out]; rfl, below_then HB.out (below_drawn _)⟩
  | true =>
    have HE : Hid (L.fitsS a.lg ((a.fF.length : Int) + 1) = a.fits) := fits_lg hW
    have HF : Hid (∀ q, Calls Tryz.prog 49 #[L.lp F.lb, .int .i64 ((a.fF.length : Int) + 1)] (w1.drewN q) fun e w' => e = .returned (.bool a.fits) ∧ ∃ m, w' = (w1.drewN q).drewN m) := fun q => by
      have := L.fits_at (HL.out.drawn q) HO.out.lok ((a.fF.length : Int) + 1)
      rwa [HE.out] at this
    clear hW HE HL
    obtain ⟨fb, hfb⟩ : ∃ fb, a.fits = fb := ⟨_, rfl⟩
    have HG : Hid (a.fits = fb) := hfb
    rw [hfb] at HF
    clear hfb
    go_wp2_with fail
    go_quiet (first | (go_at_call 50; exact Calls.quiet_of_same (reservation_is _ _ _ (by omega) _)) | (go_at_call 49; exact Calls.quiet_of (HF.out _)))
    go_wp2
    go_ret
    exact ⟨by rw [HG.out]; rfl, below_then HB.out (below_drawn _)⟩
set_option maxHeartbeats 1000000 in
set_option maxRecDepth 100000 in
theorem fits_nil (w : World) : Calls Tryz.prog 14 #[nilq] w fun e w' => e = .returned (.bool false) ∧ Below w.heap.size w w' := by
  go_enter Tryz.func14, Tryz.ntmps14
  go_wp2_with fail
  refine (first_nilL w).mono ?_
  rintro e w1 ⟨rfl, hb⟩
  have HB : Hid (Below w.heap.size w w1) := hb
  clear hb
  go_wp2_with fail
  go_quiet (fail)
  go_wp2
  go_ret
  exact ⟨rfl, below_then HB.out (below_drawn _)⟩
end
end Go.Proofs.YtnbegddpgmejnaaGreat
