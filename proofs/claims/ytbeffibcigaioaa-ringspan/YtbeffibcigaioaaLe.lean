/-
  RingSpan walked.
-/
import Derived.Test.YtbeffibcigaioaaLd
import Derived.Test.YtbeffibcigaioaaLb
import Derived.Laws.EntriesVeiled
namespace Go.Proofs.Ytbeffibcigaioaa
open Go.RowKit Go.Shelf

attribute [local go_sem] Oper.semAt_some

theorem rspan_x (t e : Int) (ht0 : 0 ≤ t) (ht1 : t < 18446744073709551616) (he0 : 0 ≤ e) (he1 : e < 18446744073709551616) (w : World) :
    Calls Try.prog 9 #[.int .u64 t, .int .u64 e] w fun e' w' => ∃ p c, e' = .returned (.slice p (spanN t e) c) ∧ (IIn w' .u64 p (spanN t e) (spanI t e) ∧ spanN t e ≤ c) ∧ Below w.heap.size w w' := by
  refine (rspan_any t e ht0 ht1 he0 he1 w).mono ?_
  rintro e' w' ⟨v, rfl, hr, hb⟩
  obtain ⟨p, c, rfl, hi, hc⟩ := own_in64 hr
  exact ⟨p, c, rfl, ⟨hi, hc⟩, hb⟩

/-- taken, as the laws read it. -/
theorem taken_x (Bt Be k : Nat) (t e : Int) (ht0 : 0 ≤ t) (ht1 : t < 18446744073709551616) (he0 : 0 ≤ e) (he1 : e < 18446744073709551616) (hk2 : k ≤ 70) (w : World) (bT : Boxed w Bt 22 (.int .u64 t)) (bE : Boxed w Be 22 (.int .u64 e)) :
    Calls Try.prog 11 #[seqV Bt Be, .int .i64 k] w fun e' w' => ∃ p c, e' = .returned (.tuple #[.slice p (min k (spanN t e)) c, .bool true]) ∧ IIn w' .u64 p (min k (spanN t e)) ((spanI t e).take k) ∧ Below w.heap.size w w' := by
  refine (taken_any Bt Be k t e ht0 ht1 he0 he1 hk2 w bT bE).mono ?_
  rintro e' w' ⟨v, rfl, hr, hb⟩
  rw [List.length_take, spanI_length] at hr
  obtain ⟨p, c, rfl, hi, _⟩ := own_in64 hr
  exact ⟨p, c, rfl, hi, hb⟩

theorem mod70 (m : Int) : wrap64 (m.tmod 70 + 70) = m.tmod 70 + 70 ∧ (m.tmod 70 + 70).tmod 70 = m % 70 := by
  have h1 := Int.tmod_lt_of_pos m (show (0 : Int) < 70 by decide)
  have h2 := Int.lt_tmod_of_pos m (show (0 : Int) < 70 by decide)
  exact ⟨by unfold wrap64; omega, tmod_fix m 70 (by decide)⟩

theorem box_later {W W' : World} {B : Nat} {t : TypeId} {v : Value} (h : Boxed W B t v) (hb : Below W.heap.size W W') : Boxed W' B t v := (hb.block _ (Go.Boxed.lt h)).trans h

/-- What stands throughout RingSpan. -/
structure St (w W : World) (Br Bw Bs Bt Be : Nat) (p : Option Addr) (M c : Nat) (t e : Int) : Prop where
  r : Boxed W Br 4 (.bool false)
  wt : Boxed W Bw 24 (.slice p M c)
  s : Boxed W Bs 27 (seqV Bt Be)
  bt : Boxed W Bt 22 (.int .u64 t)
  be : Boxed W Be 22 (.int .u64 e)
  i : IIn W .u64 p M (spanI t e)
  b : Below w.heap.size w W

theorem St.later {w W W' : World} {Br Bw Bs Bt Be : Nat} {p : Option Addr} {M c : Nat} {t e : Int} (h : St w W Br Bw Bs Bt Be p M c t e) (hb : Below W.heap.size W W') : St w W' Br Bw Bs Bt Be p M c t e :=
  ⟨box_later h.r hb, box_later h.wt hb, box_later h.s hb, box_later h.bt hb, box_later h.be hb, h.i.later hb, below_then h.b hb⟩
theorem St.drewN {w W : World} {Br Bw Bs Bt Be : Nat} {p : Option Addr} {M c : Nat} {t e : Int} (h : St w W Br Bw Bs Bt Be p M c t e) (n : Nat) : St w (W.drewN n) Br Bw Bs Bt Be p M c t e :=
  h.later (below_drewN (Below.refl _ _) n)

theorem same_eq (p q : Option Addr) (n c d : Nat) (xs : List Int) (w : World) (hx : IIn w .u64 p n xs) (hy : IIn w .u64 q n xs) (hn : n ≤ 140737488355328) :
    Calls Try.prog 12 #[.slice p n c, .slice q n d] w fun e w' => e = .returned (.bool true) ∧ ∃ nq, w' = w.drewN nq := by
  refine (same_any p q n c n d xs xs w hx hy hn).mono ?_
  rintro e w' ⟨rfl, h⟩
  exact ⟨by simp, h⟩

theorem IIn.drewN {w : World} {k : IntKind} {p : Option Addr} {n : Nat} {ss : List Int} (h : IIn w k p n ss) (q : Nat) : IIn (w.drewN q) k p n ss := h.later (below_drewN (Below.refl _ _) q)

theorem IIn.take {w : World} {k : IntKind} {p : Option Addr} {n : Nat} {ss : List Int} (h : IIn w k p n ss) (j : Nat) : IIn w k p (min j n) (ss.take j) := by
  refine ⟨by rw [List.length_take, h.len], fun h0 => ?_⟩
  obtain ⟨b, o, e, hc⟩ := h.cells (by omega)
  refine ⟨b, o, e, fun i hi => ?_⟩
  rw [List.getElem_take]
  exact hc i (by have := hi; rw [List.length_take] at this; omega)

theorem taken3 (Bt Be : Nat) (t e : Int) (ht0 : 0 ≤ t) (ht1 : t < 18446744073709551616) (he0 : 0 ≤ e) (he1 : e < 18446744073709551616) (w : World) (bT : Boxed w Bt 22 (.int .u64 t)) (bE : Boxed w Be 22 (.int .u64 e)) :
    Calls Try.prog 11 #[seqV Bt Be, .int .i64 3] w fun e' w' => ∃ p c, e' = .returned (.tuple #[.slice p (min 3 (spanN t e)) c, .bool true]) ∧ IIn w' .u64 p (min 3 (spanN t e)) ((spanI t e).take 3) ∧ Below w.heap.size w w' :=
  taken_x Bt Be 3 t e ht0 ht1 he0 he1 (by decide) w bT bE

theorem keeps_below {W W' : World} (h : Below W.heap.size W W') : KeepsOthers W W' :=
  ⟨h.size, fun k _ hk _ => (h.block k (Array.getElem?_eq_some_iff.1 hk).1).trans hk⟩

theorem St.own {β : Type} {w : World} {Br Bw Bs Bt Be : Nat} {p : Option Addr} {M c : Nat} {t e : Int} {B : Nat} (hB : w.heap.size ≤ B) : OwnFrom B (fun (_ : β) W => St w W Br Bw Bs Bt Be p M c t e) := by
  intro s X Y row hs hg hr
  have hr' : ∀ r, row = some r → ∃ o : Obj, X.heap[r]? = some o ∧ o.isCells = false := fun r e => (hr r e).2
  refine ⟨boxed_own Br 4 (fun (_ : Unit) => Value.bool false) () X Y row hs.r hg hr', boxed_own Bw 24 (fun (_ : Unit) => Value.slice p M c) () X Y row hs.wt hg hr', boxed_own Bs 27 (fun (_ : Unit) => seqV Bt Be) () X Y row hs.s hg hr', boxed_own Bt 22 (fun (_ : Unit) => Value.int .u64 t) () X Y row hs.bt hg hr', boxed_own Be 22 (fun (_ : Unit) => Value.int .u64 e) () X Y row hs.be hg hr', ⟨hs.i.len, fun h0 => ?_⟩, ownFrom_below (β := Unit) (Nat.le_refl _) hB () X Y row hs.b hg hr⟩
  obtain ⟨b, o, rfl, hc⟩ := hs.i.cells h0
  exact ⟨b, o, rfl, fun i hi => cell_kept (hc i hi) hg hr'⟩

/-- A store into the counter's box leaves all that stands. -/
theorem St.set {w W : World} {Br Bw Bs Bt Be Bn : Nat} {p : Option Addr} {M c : Nat} {t e : Int} (h : St w W Br Bw Bs Bt Be p M c t e) (v : Value) (h1 : Br < Bn) (h2 : Bw < Bn) (h3 : Bs < Bn) (h4 : Bt < Bn) (h5 : Be < Bn) (h6 : ∀ b o, p = some ⟨b, o, none⟩ → 0 < M → b < Bn) (h7 : w.heap.size ≤ Bn) :
    St w (W.setCell ⟨Bn, 0, none⟩ v) Br Bw Bs Bt Be p M c t e := by
  refine ⟨Go.Boxed.other h.r (by omega) v, Go.Boxed.other h.wt (by omega) v, Go.Boxed.other h.s (by omega) v, Go.Boxed.other h.bt (by omega) v, Go.Boxed.other h.be (by omega) v, ⟨h.i.len, fun h0 => ?_⟩, h.b.setCell (p := ⟨Bn, 0, none⟩) h7 v⟩
  obtain ⟨b, o, e1, hc⟩ := h.i.cells h0
  have hb := h6 b o e1 h0
  exact ⟨b, o, e1, fun i hi => (World.cell?_of_block (Below.heap_setCell W ⟨Bn, 0, none⟩ v b (by show b ≠ Bn; omega))).trans (hc i hi)⟩

theorem prefix_snoc {L l : List Int} {x : Int} (h : l <+: L) (hx : L[l.length]? = some x) : l ++ [x] <+: L := by
  obtain ⟨r, rfl⟩ := h
  rw [List.getElem?_append_right (Nat.le_refl _), Nat.sub_self] at hx
  cases r with
  | nil => simp at hx
  | cons y r =>
    simp at hx
    subst hx
    exact ⟨r, by simp⟩

theorem snoc_prefix {L l : List Int} {x : Int} (h : l ++ [x] <+: L) : L[l.length]? = some x := by
  obtain ⟨r, rfl⟩ := h
  simp

theorem results_cell1 {fn : Func} {p : Tmp} {ty : TypeId} (h : fn.results = #[.cell p ty]) (tmps : Array Value) (P : Program) (w : World) :
    (results fn tmps).run P w = ((asAddr (tmps.getD p undef)).run P w).andThen fun a w₁ => (loadVar ty a).run P w₁ := by
  simp only [results, h]
  simp [Sem.run_bind, Result.andThen]

set_option maxRecDepth 100000 in
set_option maxHeartbeats 4000000 in
theorem ringSpan_any (t e m : Int) (ht0 : 0 ≤ t) (ht1 : t < 18446744073709551616) (he0 : 0 ≤ e) (he1 : e < 18446744073709551616) (w : World) :
    Calls Try.prog 3 #[.int .u64 t, .int .u64 e, .int .i64 m] w fun e w' => e = .returned (.bool true) ∧ Below w.heap.size w w' := by
  obtain ⟨wm, hmod⟩ := mod70 m
  have hk0 := Int.emod_nonneg m (show (70 : Int) ≠ 0 by decide)
  have hk1 := Int.emod_lt_of_pos m (show (0 : Int) < 70 by decide)
  obtain ⟨K, hK⟩ : ∃ K : Nat, m % 70 = K := ⟨(m % 70).toNat, by omega⟩
  rw [hK] at hmod hk0 hk1
  have hK70 : K ≤ 70 := by omega
  clear hk0 hk1 hK
  obtain ⟨M, hM⟩ : ∃ M, spanN t e = M := ⟨_, rfl⟩
  have hM64 : M ≤ 64 := by rw [← hM]; exact spanN_le t e
  refine (callsIn_wide (n := 9)).1 ?_
  refine callsIn_of_wp_marks Try.func3 rfl trivial ?_ rfl
  simp only [Try.ntmps3, List.size_toArray, List.length_cons, List.length_nil, Nat.reduceAdd, Nat.reduceSub, Array.replicate_succ, Array.replicate_zero, List.push_toArray, List.append_toArray, List.nil_append, List.cons_append]
  gi_wp2_with fail
  refine ⟨trivial, (callsIn_wide.2 (awake_any _)).mono ?_⟩
  rintro e1 w1 ⟨rfl, hb⟩
  have bR1 : Hid (Boxed w1 w.heap.size 4 (.bool false)) := box_later (Boxed.new w 4 (.bool false)) hb
  have B1 : Hid (Below w.heap.size w w1) := (((Below.refl w.heap.size w).alloc (Nat.le_refl _) (.cells #[.bool false] 4)).trans (hb.mono (by simp)))
  clear hb
  gi_wp2_with fail
  refine ⟨trivial, (callsIn_wide.2 (rspan_x t e ht0 ht1 he0 he1 _)).mono ?_⟩
  rintro e2 w2 ⟨p, c, rfl, ⟨hi, hc⟩, hb⟩
  have HI2 : Hid (IIn w2 .u64 p (spanN t e) (spanI t e)) := hi
  have bR2 : Hid (Boxed w2 w.heap.size 4 (.bool false)) := box_later bR1.out hb
  have B2 : Hid (Below w.heap.size w w2) := below_then B1.out hb
  clear hb hi bR1 B1
  rw [hM] at HI2 hc
  rw [hM]
  gi_wp2_with fail
  refine ⟨trivial, (callsIn_wide.2 (span_x t e _)).mono ?_⟩
  rintro e3 w3 ⟨Bt, Be, rfl, bT, bE, hb⟩
  have S4 : Hid (St w (w3.alloc (.cells #[seqV Bt Be] 27)) w.heap.size w2.heap.size w3.heap.size Bt Be p M c t e) := by
    have h2 : Below w2.heap.size w2 (w2.alloc (.cells #[.slice p M c] 24)) := (Below.refl _ _).alloc (Nat.le_refl _) _
    have h3 : Below w3.heap.size w3 (w3.alloc (.cells #[seqV Bt Be] 27)) := (Below.refl _ _).alloc (Nat.le_refl _) _
    have h23 : Below w2.heap.size w2 w3 := below_then h2 hb
    exact ⟨box_later (box_later bR2.out h23) h3, box_later (box_later (Boxed.new w2 24 _) hb) h3, Boxed.new w3 27 _, box_later bT h3, box_later bE h3, (HI2.out.later h23).later h3, below_then (below_then B2.out h23) h3⟩
  clear hb bT bE bR2 B2 HI2
  have cS := (Go.Boxed.cell S4.out.s)
  gi_wp2_with fail
  generalize w2.heap.size = Bw at *
  generalize w3.heap.size = Bs at *
  generalize w3.alloc (.cells #[seqV Bt Be] 27) = w4 at *
  refine ⟨trivial, (callsIn_wide.2 (taken_x Bt Be K t e ht0 ht1 he0 he1 hK70 _ S4.out.bt S4.out.be)).mono ?_⟩
  rintro e5 w5 ⟨pa, ca, rfl, hia, hb⟩
  rw [hM] at hia
  rw [hM]
  have S5 : Hid (St w w5 w.heap.size Bw Bs Bt Be p M c t e) := S4.out.later hb
  have A5 : Hid (IIn w5 .u64 pa (min K M) ((spanI t e).take K)) := hia
  clear hb hia S4 cS
  have cS := (Go.Boxed.cell S5.out.s)
  gi_wp2_with fail
  refine ⟨trivial, (callsIn_wide.2 (taken_all Bt Be t e ht0 ht1 he0 he1 _ S5.out.bt S5.out.be)).mono ?_⟩
  rintro e6 w6 ⟨pb, cb, rfl, hia, hb⟩
  rw [hM] at hia
  rw [hM]
  have S6 : Hid (St w w6 w.heap.size Bw Bs Bt Be p M c t e) := S5.out.later hb
  have A6 : Hid (IIn w6 .u64 pa (min K M) ((spanI t e).take K)) := A5.out.later hb
  have Q6 : Hid (IIn w6 .u64 pb M (spanI t e)) := hia
  clear hb hia S5 cS A5
  have cS := (Go.Boxed.cell S6.out.s)
  gi_wp2_with fail
  refine ⟨trivial, (callsIn_wide.2 (taken_x Bt Be K t e ht0 ht1 he0 he1 hK70 _ S6.out.bt S6.out.be)).mono ?_⟩
  rintro e7 w7 ⟨pc, cc, rfl, hia, hb⟩
  rw [hM] at hia
  rw [hM]
  have S7 : Hid (St w w7 w.heap.size Bw Bs Bt Be p M c t e) := S6.out.later hb
  have A7 : Hid (IIn w7 .u64 pa (min K M) ((spanI t e).take K)) := A6.out.later hb
  have Q7 : Hid (IIn w7 .u64 pb M (spanI t e)) := Q6.out.later hb
  have C7 : Hid (IIn w7 .u64 pc (min K M) ((spanI t e).take K)) := hia
  clear hb hia S6 cS A6 Q6
  gi_wp2_with fail
  refine ⟨trivial, (callsIn_wide.2 (span_x t e _)).mono ?_⟩
  rintro e8 w8 ⟨Bt2, Be2, rfl, bT, bE, hb⟩
  have S8 : Hid (St w w8 w.heap.size Bw Bs Bt Be p M c t e) := S7.out.later hb
  have A8 : Hid (IIn w8 .u64 pa (min K M) ((spanI t e).take K)) := A7.out.later hb
  have Q8 : Hid (IIn w8 .u64 pb M (spanI t e)) := Q7.out.later hb
  have C8 : Hid (IIn w8 .u64 pc (min K M) ((spanI t e).take K)) := C7.out.later hb
  clear hb S7 A7 Q7 C7
  gi_wp2_with fail
  refine ⟨trivial, (callsIn_wide.2 (taken_all Bt2 Be2 t e ht0 ht1 he0 he1 _ bT bE)).mono ?_⟩
  rintro e9 w9 ⟨pd, cd, rfl, hia, hb⟩
  rw [hM] at hia
  rw [hM]
  have S9 : Hid (St w w9 w.heap.size Bw Bs Bt Be p M c t e) := S8.out.later hb
  have A9 : Hid (IIn w9 .u64 pa (min K M) ((spanI t e).take K)) := A8.out.later hb
  have Q9 : Hid (IIn w9 .u64 pb M (spanI t e)) := Q8.out.later hb
  have C9 : Hid (IIn w9 .u64 pc (min K M) ((spanI t e).take K)) := C8.out.later hb
  have D9 : Hid (IIn w9 .u64 pd M (spanI t e)) := hia
  clear hb hia S8 A8 Q8 C8 bT bE
  have cW := (Go.Boxed.cell S9.out.wt)
  gi_wp2_with fail
  refine ⟨trivial, (callsIn_wide.2 (same_eq pb p M cb c (spanI t e) _ Q9.out S9.out.i (by omega))).mono ?_⟩
  rintro ea wa ⟨rfl, na, rfl⟩
  have Sa : Hid (St w (w9.drewN na) w.heap.size Bw Bs Bt Be p M c t e) := S9.out.drewN na
  have Aa : Hid (IIn (w9.drewN na) .u64 pa (min K M) ((spanI t e).take K)) := A9.out.drewN na
  have Ca : Hid (IIn (w9.drewN na) .u64 pc (min K M) ((spanI t e).take K)) := C9.out.drewN na
  have Da : Hid (IIn (w9.drewN na) .u64 pd M (spanI t e)) := D9.out.drewN na
  clear S9 A9 Q9 C9 D9 cW
  generalize w9.drewN na = w10 at *
  have cW := (Go.Boxed.cell Sa.out.wt)
  gi_wp2_with fail
  refine ⟨trivial, (callsIn_wide.2 (same_eq pd p M cd c (spanI t e) _ Da.out Sa.out.i (by omega))).mono ?_⟩
  rintro eb wb ⟨rfl, nb, rfl⟩
  have Sb : Hid (St w (w10.drewN nb) w.heap.size Bw Bs Bt Be p M c t e) := Sa.out.drewN nb
  have Ab : Hid (IIn (w10.drewN nb) .u64 pa (min K M) ((spanI t e).take K)) := Aa.out.drewN nb
  have Cb : Hid (IIn (w10.drewN nb) .u64 pc (min K M) ((spanI t e).take K)) := Ca.out.drewN nb
  clear Sa Aa Ca Da cW
  generalize w10.drewN nb = w11 at *
  have cW := (Go.Boxed.cell Sb.out.wt)
  obtain ⟨J, hJ⟩ : ∃ J, min K M = J := ⟨_, rfl⟩
  rw [hJ] at Ab Cb ⊢
  have hmn : (if M < K then (M : Int) else (K : Int)) = (J : Int) := by split <;> omega
  have hJM : J ≤ M := by omega
  have hJc : (J : Int) ≤ (c : Int) := by omega
  gi_wp2_with fail
  refine ⟨trivial, (callsIn_wide.2 (same_eq pa p J ca c ((spanI t e).take K) _ Ab.out (by have := Sb.out.i.take K; rw [hJ] at this; exact this) (by omega))).mono ?_⟩
  rintro ec wc ⟨rfl, nc, rfl⟩
  have Sc : Hid (St w (w11.drewN nc) w.heap.size Bw Bs Bt Be p M c t e) := Sb.out.drewN nc
  have Ac : Hid (IIn (w11.drewN nc) .u64 pa J ((spanI t e).take K)) := Ab.out.drewN nc
  have Cc : Hid (IIn (w11.drewN nc) .u64 pc J ((spanI t e).take K)) := Cb.out.drewN nc
  clear Sb Ab Cb cW
  generalize w11.drewN nc = w12 at *
  gi_wp2_with fail
  refine ⟨trivial, (callsIn_wide.2 (same_eq pc pa J cc ca ((spanI t e).take K) _ Cc.out Ac.out (by omega))).mono ?_⟩
  rintro ed wd ⟨rfl, nd, rfl⟩
  have Sd : Hid (St w (w12.drewN nd) w.heap.size Bw Bs Bt Be p M c t e) := Sc.out.drewN nd
  clear Sc Ac Cc
  generalize w12.drewN nd = w13 at *
  have b13 : Below w13.heap.size w13 (w13.alloc (.cells #[.int .i64 0] 3)) := (Below.refl _ w13).alloc (Nat.le_refl _) _
  have cS := Go.Boxed.cell (box_later Sd.out.s b13)
  gi_wp2_with fail
  have S0 : St w (w13.alloc (.cells #[.int .i64 0] 3)) w.heap.size Bw Bs Bt Be p M c t e := Sd.out.later b13
  have bN0 := Boxed.new w13 3 (.int .i64 0)
  have l1 := Go.Boxed.lt Sd.out.r
  have l2 := Go.Boxed.lt Sd.out.wt
  have l3 := Go.Boxed.lt Sd.out.s
  have l4 := Go.Boxed.lt Sd.out.bt
  have l5 := Go.Boxed.lt Sd.out.be
  have l6 : ∀ b o, p = some ⟨b, o, none⟩ → 0 < M → b < w13.heap.size := fun b o ep h0 => by
    obtain ⟨b', o', e1, hcc⟩ := Sd.out.i.cells h0
    rw [ep] at e1
    cases e1
    exact World.block_lt_of_cell? w13 _ (hcc 0 (by rw [Sd.out.i.len]; exact h0))
  have l7 := Sd.out.b.size
  have hsz : (w13.alloc (.cells #[.int .i64 0] 3)).heap.size = w13.heap.size + 1 := by simp
  clear b13 cS Sd
  generalize w13.alloc (.cells #[.int .i64 0] 3) = W0 at *
  generalize w13.heap.size = Bn at *
  refine wpIn_rangeFunc_ownG (F := Fence.wide) (n := 9) (P := Try.prog) rfl (by decide) (gf := 23) (lb := #[.pointer (some ⟨Bt, 0, none⟩), .pointer (some ⟨Be, 0, none⟩)]) rfl trivial (enters_of Try.func23 (by kernel_rfl) rfl)
    (span_stops Fence.wide (9 - 1) trivial rfl (by decide) Bt Be t e ht0 ht1 he0 he1 W0 S0.bt S0.be) Kept2.trans (Kept2.keeps (by omega) (by omega)) (Below.refl _ _) (fun _ => rfl)
    (fun pre W => (Boxed W Bn 3 (.int .i64 pre.length) ∧ nums pre <+: spanI t e) ∧ St w W w.heap.size Bw Bs Bt Be p M c t e)
    (fun _ pre _ => ¬ nums pre <+: spanI t e)
    (OwnFrom.and (OwnFrom.and (Own.from (boxed_own _ _ _) _) (ownFrom_pure _ _)) (St.own (by omega)))
    (fun c => ownFrom_pure _ _)
    ⟨⟨bN0, List.nil_prefix⟩, S0⟩
    (fun x => { tmps := #[.int .u64 t, .int .u64 e, .int .i64 m, undef, undef, undef, .pointer (some ⟨w.heap.size, 0, none⟩), .pointer (some ⟨Bw, 0, none⟩), .pointer (some ⟨Bs, 0, none⟩), .int .i64 K, .slice pa J ca, .bool true, .slice pb M cb, .bool true, .slice pc J cc, .bool true, .slice pd M cd, .bool true, .pointer (some ⟨Bn, 0, none⟩), .int .u64 x.1, undef, undef, .bool true, .bool false, .int .u64 t, .int .u64 e, .slice p M c, .int .u64 t, .int .u64 e, seqV Bt Be, .int .i64 m, .int .i64 (m.tmod 70), .int .i64 (m.tmod 70 + 70), .int .i64 K, .tuple #[.slice pa J ca, .bool true], seqV Bt Be, .int .i64 K, .tuple #[.slice pa J ca, .bool true], .slice pa J ca, .bool true, .tuple #[.slice pb M cb, .bool true], seqV Bt Be, .tuple #[.slice pb M cb, .bool true], .slice pb M cb, .bool true, .tuple #[.slice pc J cc, .bool true], seqV Bt Be, .int .i64 K, .tuple #[.slice pc J cc, .bool true], .slice pc J cc, .bool true, .tuple #[.slice pd M cd, .bool true], .int .u64 t, .int .u64 e, seqV Bt2 Be2, .tuple #[.slice pd M cd, .bool true], .slice pd M cd, .bool true, .bool true, .bool false, .bool false, .bool true, .bool false, .bool false, .bool false, .bool true, .bool false, .bool false, .bool false, .bool true, .bool false, .bool false, .bool false, .slice pb M cb, .slice p M c, .bool true, .bool false, .bool false, .bool false, .slice pd M cd, .slice p M c, .bool true, .bool false, .bool false, .bool false, .slice pa J ca, .slice p M c, .int .i64 K, .slice p M c, .int .i64 M, .int .i64 J, .slice p J c, .bool true, .bool false, .bool false, .bool false, .slice pc J cc, .slice pa J ca, .bool true, .bool false, .bool false, seqV Bt Be, .int .u64 x.1, undef, undef, undef, undef, undef, undef, undef, undef, undef, undef, undef, undef, undef, undef, undef, undef, undef, undef, undef, undef, undef, undef, undef, undef, undef, undef, undef, undef, undef, undef, undef, undef, undef, undef, undef, undef, undef], defers := [] }) ?assign ?body ?done ?stop
  case assign =>
    intro l x W K' hK'
    gi_wp2
    exact hK'
  case body =>
    rintro l pre x W ⟨⟨bN, hpre⟩, hS⟩ hlt
    rw [hM] at hlt
    obtain ⟨b, o, rfl, hcell⟩ := hS.i.cells (by omega)
    obtain ⟨j, hj⟩ : ∃ j, pre.length = j := ⟨_, rfl⟩
    rw [hj] at hlt bN
    have hlen : (spanI t e).length = M := hS.i.len
    have hget : (spanI t e)[j]? = some (t + (j : Int)) := spanI_get t e j (by rw [hM]; exact hlt)
    have cS := Go.Boxed.cell hS.s
    gi_wp2_with fail
    refine ⟨trivial, (CallsIn.inRound l (callsIn_wide.2 (taken3 Bt Be t e ht0 ht1 he0 he1 W hS.bt hS.be))).mono ?_⟩
    rintro eq wq ⟨pl, cl, rfl, hil, hb⟩
    rw [hM] at hil ⊢
    obtain ⟨J3, hJ3⟩ : ∃ J3, min 3 M = J3 := ⟨_, rfl⟩
    rw [hJ3] at hil ⊢
    have Sq := hS.later hb
    have bNq := box_later bN hb
    have cN := Go.Boxed.cell bNq
    have fN := Go.Boxed.frozen bNq
    have cW := Go.Boxed.cell Sq.wt
    have cR := Go.Boxed.cell Sq.r
    have fR := Go.Boxed.frozen Sq.r
    have hcq : wq.cell? ⟨b, o + j, none⟩ = some (.int .u64 (t + (j : Int))) := by
      have h1 := hcell j (by omega)
      rw [show (spanI t e)[j]'(by omega) = t + (j : Int) from Option.some.inj ((List.getElem?_eq_getElem (by omega)).symm.trans hget)] at h1
      exact (hb.cell (p := ⟨b, o + j, none⟩) (World.block_lt_of_cell? W ⟨b, o + j, none⟩ h1)).trans h1
    have hmn3 : (if (M : Int) < 3 then (M : Int) else 3) = (J3 : Int) := by split <;> omega
    have hJ3c : (J3 : Int) ≤ (c : Int) := by omega
    have hnl : (nums pre).length = j := by simp [hj]
    have HB : Hid (Below W.heap.size W wq) := hb
    have HL : Hid (IIn wq .u64 pl J3 ((spanI t e).take 3)) := hil
    have HPre : Hid (nums pre <+: spanI t e) := hpre
    have HGet : Hid ((spanI t e)[j]? = some (t + (j : Int))) := hget
    have HSq : Hid (St w wq w.heap.size Bw Bs Bt Be (some ⟨b, o, none⟩) M c t e) := Sq
    have HS : Hid (St w W w.heap.size Bw Bs Bt Be (some ⟨b, o, none⟩) M c t e) := hS
    have HN : Hid (Boxed wq Bn 3 (.int .i64 j)) := bNq
    have HNL : Hid ((nums pre).length = j) := hnl
    have hjM : ¬ (M : Int) ≤ (j : Int) := by omega
    have hj64 : j < 64 := by omega
    have HL6 : Hid (∀ b' o', some (⟨b, o, none⟩ : Addr) = some ⟨b', o', none⟩ → 0 < M → b' < Bn) := l6
    clear hb hil hpre hget hcell Sq bNq bN hS cS hnl S0 l6
    by_cases hx : x.1 = t + (j : Int)
    · have hxb : (x.1 != t + (j : Int)) = false := by simp [hx]
      have HP2 : Hid (nums (pre ++ [x]) <+: spanI t e) := by
        have := prefix_snoc HPre.out (x := x.1) (by rw [HNL.out, hx]; exact HGet.out)
        show _ <+: _
        simpa [nums] using this
      clear hx
      gi_wp2_with fail
      refine ⟨trivial, (CallsIn.inRound l (callsIn_wide.2 (same_eq pl (some ⟨b, o, none⟩) J3 cl c ((spanI t e).take 3) _ HL.out (by have := HSq.out.i.take 3; rw [hJ3] at this; exact this) (by omega)))).mono ?_⟩
      rintro ez wz ⟨rfl, nz, rfl⟩
      have HSz : Hid (St w (wq.drewN nz) w.heap.size Bw Bs Bt Be (some ⟨b, o, none⟩) M c t e) := HSq.out.drewN nz
      have HNz : Hid (Boxed (wq.drewN nz) Bn 3 (.int .i64 j)) := HN.out
      have HBz : Hid (Below W.heap.size W (wq.drewN nz)) := below_drewN HB.out nz
      have cNz := Go.Boxed.cell HNz.out
      have fNz := Go.Boxed.frozen HNz.out
      clear cN fN cW cR fR hcq
      generalize wq.drewN nz = wy at *
      gi_wp2_with fail
      have hbl : b < Bn := HL6.out b o rfl (by omega)
      refine ⟨((keeps_below HBz.out).trans (KeepsOthers.setCell _ _ _)).from _, (Kept2.of_below HBz.out (Go.Boxed.lt HS.out.bt) (Go.Boxed.lt HS.out.be)).trans (Kept2.set wy _ (by omega) (by omega)), ⟨?_, HP2.out⟩, HSz.out.set _ l1 l2 l3 l4 l5 HL6.out l7⟩
      have := Go.Boxed.set (.int .i64 ((j : Int) + 1)) HNz.out
      rw [show (pre ++ [x]).length = j + 1 by simp [hj]]
      simpa using this
    · have hxb : (x.1 != t + (j : Int)) = true := by simpa using hx
      have HP2 : Hid (¬ nums (pre ++ [x]) <+: spanI t e) := by
        intro h
        have h2 : (nums pre) ++ [x.1] <+: spanI t e := by simpa [nums] using h
        have h3 := snoc_prefix h2
        rw [HNL.out, HGet.out] at h3
        exact hx (Option.some.inj h3).symm
      clear hx
      gi_wp2_with fail
      refine ⟨trivial, ?_⟩
      gi_wp2_with fail
      exact ⟨((keeps_below HB.out).trans (KeepsOthers.setCell _ _ _)).from _, HP2.out⟩
  case done =>
    rintro D ys W hD hys ⟨⟨bN, hpre⟩, hS⟩ hK
    have hyl : ys.length = M := by
      have := congrArg List.length hys
      rw [spanI_length, hM] at this
      simpa using this
    rw [hyl] at bN
    have cN := Go.Boxed.cell bN
    have cW := Go.Boxed.cell hS.wt
    have cR := Go.Boxed.cell hS.r
    have fR := Go.Boxed.frozen hS.r
    gi_wp2
    have hK' := (KeepsOthers.setCell W ⟨w.heap.size, 0, none⟩ (.bool true)).same D _ hK rfl
    refine ⟨by simp, .inl ⟨_, _, rfl, run_takeDeferred hK', ?_⟩⟩
    have hc5 := cell_kept (Go.Boxed.cell (Go.Boxed.set (.bool true) hS.r)) (grownBy_putObj' _ D (.deferred none)) (fun r e => by cases e; exact ⟨_, hK', rfl⟩)
    refine ⟨.bool true, ?_, rfl, (hS.b.setCell (p := ⟨w.heap.size, 0, none⟩) (Nat.le_refl _) _).trans (belowK_b (w := w) (Nat.le_refl _) _ D _ _ (by omega) hK' rfl rfl)⟩
    rw [results_cell1 rfl]
    simp [go_sem, hc5]
  case stop =>
    rintro D c pre W hD hpre hnot hK
    exact absurd hpre hnot

end Go.Proofs.Ytbeffibcigaioaa
