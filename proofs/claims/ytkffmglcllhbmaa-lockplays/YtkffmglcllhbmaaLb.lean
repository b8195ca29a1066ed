/-
  Layer 14: entries, its walk.
-/
import Derived.Test.YtkffmglcllhbmaaLa
namespace Go.Proofs.Ytkffmglcllhbmaa
open Go.RowKit

open Go.Shelf
attribute [local go_sem] Oper.semAt_some
theorem own_setv {w : World} {base n : Nat} {e : TypeId} {v : Value} {xs : List Value} (h : w.ownsRow base e 1 v n xs) {g : Nat} (hg : v.ownBlock = some g) (j : Nat) (u : Value) : (w.setCell ⟨g, j, none⟩ u).ownsRow base e 1 v n (xs.set j u) := by
  refine ⟨by rw [List.length_set]; exact h.1, ?_⟩
  rcases h.2 with ⟨rfl, _⟩ | ⟨g', cap, cur, rfl, hb, hg', hcap, hm, hs, ht⟩
  · cases hg
  · obtain rfl : g' = g := by simpa [Value.ownBlock] using hg
    refine .inr ⟨g', cap, cur.setIfInBounds j u, rfl, hb, ?_, hcap, hm, by simpa using hs, ?_⟩
    · rw [setCell_eq_setRow w g' j _ e (0, 0) u hg']
      exact setRow_heap w g' _ _ e _ hg'
    · rw [← ht]
      simp [List.take_set]
section
variable {wi : World} {s1 : Nat} {m : Int} {L : List En} {x : TV} {k : Nat} {v : Value} {W W' : World}
theorem JZ.core (h : JZ wi s1 m L x k v W) (hs1 : wi.heap.size + 2 ≤ s1) (hk : Kept (fun b => x.val.ownBlock = some b) W W') : ∃ E, Boxed W' (wi.heap.size + 1) 53 v ∧ Ents wi s1 W' v E L k ∧ Boxed W' wi.heap.size 3 (.int .i64 m) ∧ s1 ≤ W'.heap.size ∧ ∀ y ∈ E, ∀ g, y.2.ownBlock = some g → x.val.ownBlock ≠ some g := by
  obtain ⟨E, ys, h1, h2, h3, h4, h5, h6⟩ := h
  have hx2 : ∀ g, x.val.ownBlock = some g → s1 ≤ g := fun g hg => (h5.lt g hg).1
  have hx3 : ∀ g cur ty, W.heap[g]? = some (.cells cur ty (0, 0)) → ty ≠ 3 → ¬ x.val.ownBlock = some g := fun g cur ty hg hne e => by
    rcases h5.2 with ⟨e1, _⟩ | ⟨g', cap, cur', e1, _, hgb, _⟩
    · rw [e1] at e; cases e
    · rw [e1] at e; cases e; rw [hgb] at hg; cases hg; exact hne rfl
  refine ⟨E, (hk.block _ h1.lt (hx3 _ _ _ h1 (by decide))).trans h1, ⟨h2.len, ?_, fun i y hy => ⟨(h2.each i y hy).1, ?_⟩, hk.into h2.below (fun b hb e => by have := hx2 b e; omega) (Nat.le_refl _)⟩, (hk.block _ h3.lt (fun e => by have := hx2 _ e; omega)).trans h3, Nat.le_trans h4 hk.size, h6⟩
  · refine ⟨h2.row.1, ?_⟩
    rcases h2.row.2 with h | ⟨g, cap, cur, rfl, e2, e3, r⟩
    · exact .inl h
    · exact .inr ⟨g, cap, cur, rfl, e2, (hk.block g (h2.row.lt g rfl).2 (hx3 g _ _ e3 (by decide))).trans e3, r⟩
  · have ho := (h2.each i y hy).2
    refine ⟨ho.1, ?_⟩
    rcases ho.2 with h | ⟨g, cap, cur, e1, e2, e3, r⟩
    · exact .inl h
    · exact .inr ⟨g, cap, cur, e1, e2, (hk.block g (ho.lt g (by rw [e1]; rfl)).2 (h6 y (List.mem_of_getElem? hy) g (by rw [e1]; rfl))).trans e3, r⟩
theorem JZ.write (h : JZ wi s1 m L x k v W) (hs1 : wi.heap.size + 2 ≤ s1) (hk : Kept (fun b => x.val.ownBlock = some b) W W') (hx : ∃ ys, W'.ownsRow s1 3 1 x.val x.n ys) : JZ wi s1 m L x k v W' := by
  obtain ⟨E, h1, h2, h3, h4, h5⟩ := h.core hs1 hk
  obtain ⟨zs, hz⟩ := hx
  exact ⟨E, zs, h1, h2, h3, h4, hz, h5⟩
theorem JZ.last (h : JZ wi s1 m L x k v W) (hs1 : wi.heap.size + 2 ≤ s1) (hk : Kept (fun b => x.val.ownBlock = some b) W W') : JE wi s1 m L k W' ∧ Boxed W' (wi.heap.size + 1) 53 v ∧ Boxed W' wi.heap.size 3 (.int .i64 m) := by
  obtain ⟨E, h1, h2, h3, h4, h5⟩ := h.core hs1 hk
  exact ⟨⟨v, E, h1, h2, h3, h4⟩, h1, h3⟩
theorem JZ.done (h : JZ wi s1 m L x k v W) : JE wi s1 m L k W := by
  obtain ⟨E, ys, h1, h2, h3, h4, h5, h6⟩ := h
  exact ⟨v, E, h1, h2, h3, h4⟩
end
/-- how many are told -/
def mostN (m : Int) (n : Nat) : Nat := min n (max m 1).toNat
set_option maxRecDepth 100000 in
set_option maxHeartbeats 8000000 in
theorem entries_at {w : World} {F : Ft} {n : Nat} {a : Lk} (h : PL w F n a) (hn : n ≤ 10000) (m : Int) : Calls Try.prog 25 #[qp F.Q, .int .i64 m] w fun e w' => ∃ v E, e = .returned (.tuple #[v, .bool true]) ∧ Ents w w.heap.size w' v E a.L (mostN m a.L.length) := by
  have HP : Hid (PL w F n a) := h
  have hln : a.L.length ≤ 10000 := Nat.le_trans h.len hn
  clear h
  refine (callsIn_wide (n := 9)).1 ?_
  refine callsIn_of_wp_marks Try.func25 rfl trivial ?_ rfl
  simp only [Try.ntmps25, List.size_toArray, List.length_cons, List.length_nil, Nat.reduceAdd, Nat.reduceSub, Array.replicate_succ, Array.replicate_zero, List.push_toArray, List.append_toArray, List.nil_append, List.cons_append]
  gi_wp2_with fail
  have hP2 : PL ((w.alloc (.cells #[.int .i64 m] 3)).alloc (.cells #[nils] 53)) F n a := HP.out.later (below_then (below_alloc _ _) (below_alloc _ _))
  refine ⟨trivial, (callsIn_wide.2 (allL_at hP2 hn)).mono ?_⟩
  rintro e w1 ⟨bT, bS, vT, vS, rfl, hA⟩
  have HA : Hid (AllS ((w.alloc (.cells #[.int .i64 m] 3)).alloc (.cells #[nils] 53)) w1 bT bS vT vS a.L F.m) := hA
  have hs1 := hA.below.size
  simp only [World.size_alloc] at hs1
  have hB1 : Below w.heap.size w w1 := below_then (below_alloc _ _) (below_then (below_alloc _ _) hA.below)
  have bO : Boxed w1 (w.heap.size + 1) 53 nils := by
    have := (Boxed.new (w.alloc (.cells #[.int .i64 m] 3)) 53 nils)
    rw [World.size_alloc] at this
    exact (hA.below.block _ (by simp)).trans this
  have bM : Boxed w1 w.heap.size 3 (.int .i64 m) := (hA.below.block _ (by simp; omega)).trans ((Boxed.new w 3 (.int .i64 m)).alloc _)
  have hset : ∀ e ∈ a.L, ∃ p c, sv F.m e.t = .slice p e.s.length c ∧ e.s.length ≤ 64 ∧ Frm w1 (.slice p e.s.length c) e.s ∧ ∀ g, blk (.slice p e.s.length c) = some g → g ≠ w.heap.size + 1 := fun e he => by
    obtain ⟨p, c, h1, h2, h3⟩ := HP.out.cm.ins e he
    refine ⟨p, c, by rw [sv, h1]; rfl, HP.out.ok.slen he, h2.later hB1, fun g hg => ?_⟩
    have := (h2.lt hg).1
    omega
  have HNE : Hid (∀ k, k < a.L.length → (en a.L k).s ≠ [] ∧ (en a.L k).s.length ≤ 64) := fun k hk => ⟨HP.out.ok.ne _ (en_mem hk), HP.out.ok.slen (en_mem hk)⟩
  have HJ0 : Hid (JE w w1.heap.size m a.L 0 w1) := ⟨nils, [], bO, ⟨rfl, World.ownsRow_nil _ _ _ _, fun i x hx => by simp at hx, hB1⟩, bM, Nat.le_refl _⟩
  clear hA hP2 bO bM
  gi_wp2
  rw [bin_seq]
  gi_wp2
  refine range_t (F := Fence.wide) (n := 9) (P := Try.prog) rfl (by decide) (gf := 58) (lb := #[.pointer (some ⟨bT, 0, none⟩), .pointer (some ⟨bS, 0, none⟩)]) rfl trivial (enters_of Try.func58 (by kernel_rfl) rfl)
    (allL_seq HA.out (b0 := w.heap.size + 1) (by simp) hln hset (9 - 1) (by decide)) Kx.trans (fun W l o o' hl h1 h2 => Kx.putObj W l o o' hl h1 h2) (Below.refl _ _) (fun _ => rfl)
    (fun pre W => (pre.length = 0 ∨ (pre.length : Int) < m) ∧ JE w w1.heap.size m a.L pre.length W) (fun c pre W => c = .exit 0 ∧ (1 ≤ pre.length ∧ m ≤ (pre.length : Int) ∧ (pre.length = 1 ∨ (pre.length : Int) - 1 < m)) ∧ JE w w1.heap.size m a.L pre.length W) ?hI ?hIx ⟨.inl rfl, HJ0.out⟩
    (fun x a' W => a' = { tmps := #[qp F.Q, .int .i64 m, undef, .pointer (some ⟨w.heap.size, 0, none⟩), .slice none 0 0, .bool false, .pointer (some ⟨w.heap.size + 1, 0, none⟩), allV bT bS, .int .u64 x.t, x.val, undef, qp F.Q, allV bT bS, allV bT bS, .bool false, allV bT bS, .int .u64 x.t, x.val, undef, undef, undef, undef, undef, undef, undef, undef, undef, undef, undef, undef, undef, undef, undef, undef, undef, undef, undef, undef, undef, undef, undef, undef, undef], defers := [] } ∧ ∃ k, JX w w1.heap.size m a.L x k W) (fun x a' => jx_own (by omega) x _) ?assign ?body ?done ?stop
  case hI => exact OwnFrom.and (ownFrom_pure _ _) (je_own (by omega))
  case hIx => exact fun c => OwnFrom.and (ownFrom_pure _ _) (OwnFrom.and (ownFrom_pure _ _) (je_own (by omega)))
  case assign =>
    rintro l pre x W0 W K ⟨hc, hJ⟩ hb hT hK
    have HX : Hid (JX w w1.heap.size m a.L x pre.length W) := hJ.give hb hT
    have HI : Hid ((pre.length = 0 ∨ (pre.length : Int) < m) ∧ JE w w1.heap.size m a.L pre.length W) := ⟨hc, own_below (je_own (Nat.le_refl _)) (s := pre) hJ hb⟩
    have HK : Hid (∀ a' W', KeepsFrom w1.heap.size W W' → Kx w1.heap.size (w.heap.size + 1) W W' → ((pre.length = 0 ∨ (pre.length : Int) < m) ∧ JE w w1.heap.size m a.L pre.length W') → (a' = { tmps := #[qp F.Q, .int .i64 m, undef, .pointer (some ⟨w.heap.size, 0, none⟩), .slice none 0 0, .bool false, .pointer (some ⟨w.heap.size + 1, 0, none⟩), allV bT bS, .int .u64 x.t, x.val, undef, qp F.Q, allV bT bS, allV bT bS, .bool false, allV bT bS, .int .u64 x.t, x.val, undef, undef, undef, undef, undef, undef, undef, undef, undef, undef, undef, undef, undef, undef, undef, undef, undef, undef, undef, undef, undef, undef, undef, undef, undef], defers := [] } ∧ ∃ k, JX w w1.heap.size m a.L x k W') → K a' W') := hK
    clear hK hT hJ hc
    gi_wp2
    exact HK.out _ _ (KeepsFrom.refl _ _) (Kx.refl _ _ _) HI.out ⟨rfl, _, HX.out⟩
  case body =>
    rintro l pre ⟨xt, xp, xn, xc⟩ a' W ⟨hc, hJ⟩ ⟨rfl, k, hx⟩ hlt
    have ek : k = pre.length := by
      obtain ⟨v, E, b1, e1, -⟩ := hJ
      obtain ⟨v', E', b1', e1', -⟩ := hx
      obtain ⟨p, c, s1', -⟩ := own_shape e1.row
      obtain ⟨p', c', s2', -⟩ := own_shape e1'.row
      have := b1.cell.symm.trans b1'.cell
      rw [s1', s2'] at this
      simp at this
      exact this.2.1.symm
    subst ek
    obtain ⟨gx, vS, p3, c3, p2, c2, w3, w4, ep, hv, ⟨pS, cS, eS⟩, k1, k2, k3, k4, ha1, ha2, k5, k6, hz, hkp, hvb⟩ := hx.step (HNE.out _ hlt).1 (by omega) (HNE.out _ hlt).2 (by omega)
    have HXN : Hid (xn ≤ 1000) := by obtain ⟨v, E, -, -, -, -, -, h6, -⟩ := hx; have := (HNE.out _ hlt).2; dsimp only at h6; unfold Hid; omega
    subst eS
    dsimp only at ep
    subst ep
    dsimp only at k1 k2 k3 k4 ha1 ha2 k5 k6
    have HZ : Hid (JZ w w1.heap.size m a.L ⟨xt, some ⟨gx, 0, none⟩, xn, xc⟩ (pre.length + 1) (.slice p2 (pre.length + 1) c2) (w4.setCell ⟨w.heap.size + 1, 0, none⟩ (.slice p2 (pre.length + 1) c2)) ∧ Kept (fun b => b = w.heap.size + 1 ∨ (Value.slice pS pre.length cS).ownBlock = some b) W (w4.setCell ⟨w.heap.size + 1, 0, none⟩ (.slice p2 (pre.length + 1) c2))) := ⟨hz, hkp⟩
    have HVB : Hid (∀ g, (Value.slice pS pre.length cS).ownBlock = some g → w1.heap.size ≤ g ∧ ∃ cs t z, W.heap[g]? = some (.cells cs t z)) := hvb
    have HBW : Hid (Boxed W (w.heap.size + 1) 53 (.slice pS pre.length cS) ∧ w1.heap.size ≤ W.heap.size ∧ w1.heap.size ≤ gx ∧ ∃ cs, W.heap[gx]? = some (.cells cs 3 (0, 0))) := by
      obtain ⟨v, E, -, -, -, h4, -, -, h7, -⟩ := hx
      have h8 := (h7.lt gx rfl).1
      rcases h7.2 with ⟨e1, _⟩ | ⟨g', cap, cur, e1, _, hgb, _⟩
      · simp [TV.val] at e1
      · simp [TV.val] at e1
        rw [← e1.1] at hgb
        exact ⟨hv, h4, h8, cur, hgb⟩
    clear hz hkp hvb hx hJ hv
    have hxn : xn ≤ 1000 := HXN.out
    gi_wp2_with fail
    refine ent_region W 8 (w.heap.size + 1) xt (some ⟨gx, 0, none⟩) xn xc (.slice pS pre.length cS) p3 c3 p2 (pre.length + 1) c2 _ _ _ _ _ _ _ _ _ _ _ _ _ _ _ _ _ _ _ _ _ _ _ _ _ _ _ _ _ _ _ _ W.drew w3 w4 rfl k1 k2 k3 k4 ha1 ha2 k5 k6 ?_
    clear k1 k2 k3 k4 ha1 ha2 k5 k6
    obtain ⟨W5, hW5⟩ : ∃ W5, w4.setCell ⟨w.heap.size + 1, 0, none⟩ (.slice p2 (pre.length + 1) c2) = W5 := ⟨_, rfl⟩
    rw [hW5] at HZ ⊢
    clear hW5
    gi_wp2_with fail
    gi_loopw [28] (fun i wr => ∃ j : Nat, j ≤ xn ∧ i = .int .i64 j ∧ Hid (JZ w w1.heap.size m a.L ⟨xt, some ⟨gx, 0, none⟩, xn, xc⟩ (pre.length + 1) (.slice p2 (pre.length + 1) c2) wr ∧ Kept (fun b => b = w.heap.size + 1 ∨ (Value.slice pS pre.length cS).ownBlock = some b ∨ b = gx) W wr)) (fun i _ => xn - (intOf i).toNat)
    case atStart => exact ⟨0, Nat.zero_le _, rfl, HZ.out.1, HZ.out.2.wider (fun _ _ e => e.elim .inl (fun e => .inr (.inl e)))⟩
    case round =>
      clear HZ
      obtain ⟨j, hj, rfl, HZ⟩ := hrel
      obtain ⟨E, ys, y1, y2, y3, y4, y5, y6⟩ := HZ.out.1
      have HY : Hid (wr.ownsRow w1.heap.size 3 1 (.slice (some ⟨gx, 0, none⟩) xn xc) xn ys) := y5
      clear y1 y2 y3 y4 y5 y6
      by_cases hjt : j < xn
      · have j1 : (j : Int) < (xn : Int) := by omega
        have j0 : (0 : Int) ≤ (j : Int) := by omega
        obtain ⟨u, hu⟩ : ∃ u, ys[j]? = some u := ⟨_, List.getElem?_eq_getElem (by have := HY.out.1; omega)⟩
        obtain ⟨g', c', e', z1, -⟩ := own_cell HY.out hu
        simp only [Value.slice.injEq, Option.some.injEq, Addr.mk.injEq, true_and, and_true] at e'
        obtain ⟨rfl, rfl⟩ := e'
        have z2 : wr.frozen? ⟨gx, j, none⟩ = false := by
          rcases HY.out.2 with ⟨e1, _⟩ | ⟨g', cap, cur, e1, _, hgb, _⟩
          · cases e1
          · cases e1; exact frozen_of_row wr gx j _ _ hgb
        have HN : Hid (JZ w w1.heap.size m a.L ⟨xt, some ⟨gx, 0, none⟩, xn, xc⟩ (pre.length + 1) (.slice p2 (pre.length + 1) c2) (wr.setCell ⟨gx, j, none⟩ (.int .i64 (-7))) ∧ Kept (fun b => b = w.heap.size + 1 ∨ (Value.slice pS pre.length cS).ownBlock = some b ∨ b = gx) W (wr.setCell ⟨gx, j, none⟩ (.int .i64 (-7)))) := ⟨HZ.out.1.write (by omega) ((Kept.setCell gx j _).wider (fun b _ e => by subst e; rfl)) ⟨_, own_setv HY.out rfl j _⟩, HZ.out.2.trans (Kept.setCell gx j _) (fun b _ e => .inr (.inr e))⟩
        clear HZ HY hu
        gi_wp2_with fail
        go_roundw
        case rel => exact ⟨j + 1, by omega, by go_num, HN.out⟩
        case measure => simp [intOf]; omega
      · have j1 : ¬ (j : Int) < (xn : Int) := by omega
        obtain ⟨i0, hi, hz0, hz1, hz2⟩ := info_parts B.info3
        have hml : 10000 ≤ maxLen := by decide
        have HNW : Hid (∀ j u, [Value.int .i64 (-8), Value.int .i64 (-9)][j]? = some u → (wr.alloc (.cells #[.int .i64 (-8), .int .i64 (-9)] 3)).cell? ((⟨wr.heap.size, 0, none⟩ : Addr).add j) = some u) := fun j u hj => by
          rw [Go.WideShapes.add_plain, Nat.zero_add, cell_of_row _ wr.heap.size j _ 3 (0, 0) (heap_alloc_new wr _)]; simpa using hj
        have HSW : Hid (w1.heap.size ≤ wr.heap.size) := Nat.le_trans HBW.out.2.1 HZ.out.2.size
        have hsw := HSW.out
        have HKF : Hid (∀ w6, Kept (fun b => b = w.heap.size + 1 ∨ (Value.slice pS pre.length cS).ownBlock = some b ∨ b = gx) W w6 → KeepsFrom w1.heap.size W w6 ∧ Kx w1.heap.size (w.heap.size + 1) W w6) := fun w6 hk => ⟨keeps_from_kept hk (fun b e => by
          rcases e with e | e | e
          · subst e; exact ⟨_, _, _, HBW.out.1⟩
          · exact (HVB.out b e).2
          · subst e; obtain ⟨cs, h⟩ := HBW.out.2.2.2; exact ⟨_, _, _, h⟩) _, kx_of_kept hk (fun b e => by
          rcases e with e | e | e
          · exact .inl e
          · exact .inr (HVB.out b e).1
          · subst e; exact .inr HBW.out.2.2.1) HBW.out.2.1⟩
        have HLN : Hid ((pre ++ [(⟨xt, some ⟨gx, 0, none⟩, xn, xc⟩ : TV)]).length = pre.length + 1) := by show _ = _; simp
        have HC : Hid (pre.length = 0 ∨ (pre.length : Int) < m) := hc
        clear hc
        by_cases hge : m ≤ (pre.length : Int) + 1
        · have hge' := decide_eq_true hge
          gi_wp2_with (gi_at_builtin; refine wpListIn_append_own _ rfl _ _ 37 rfl w1.heap.size 3 i0 (.int .i64 0) 1 8 Try.underlying37 hi hz0 hz1 hz2 rfl (by decide) (.slice (some ⟨gx, 0, none⟩) xn xc) xn ys rfl (HY.out.alloc _) ⟨wr.heap.size, 0, none⟩ 2 2 [.int .i64 (-8), .int .i64 (-9)] rfl rfl HNW.out (by intro u hu; simp at hu; rcases hu with rfl | rfl <;> rfl) (by omega) (by omega) (by simp; omega) ?_; intro v' w6 hown' hgrow _; have hk6 : Kept (fun b => b = gx) wr w6 := (Kept.of_below _ (below_alloc wr _)).trans (T := fun b => b = gx) ⟨hgrow.os, hgrow.tape, hgrow.output, hgrow.size, fun b hb hn => hgrow.block b hb fun e => hn (by simpa [Value.ownBlock] using e)⟩ (fun x _ e => e); have HL : Hid (JE w w1.heap.size m a.L (pre.length + 1) w6 ∧ Kept (fun b => b = w.heap.size + 1 ∨ (Value.slice pS pre.length cS).ownBlock = some b ∨ b = gx) W w6) := ⟨(HZ.out.1.last (by omega) (hk6.wider (fun b _ e => by subst e; rfl))).1, HZ.out.2.trans hk6 (fun b _ e => .inr (.inr e))⟩; have hv6 := (HZ.out.1.last (by omega) (hk6.wider (fun b _ e => by subst e; rfl))).2.1.cell; have hm6 := (HZ.out.1.last (by omega) (hk6.wider (fun b _ e => by subst e; rfl))).2.2.cell; clear hown' hgrow hk6 HZ HY)
          refine ⟨(HKF.out _ HL.out.2).1, by first | rfl | trivial, ?_, ?_⟩
          · rw [HLN.out]
            have := HC.out
            refine ⟨by omega, by omega, by omega⟩
          · rw [HLN.out]; exact HL.out.1
        · have hge' := decide_eq_false hge
          gi_wp2_with (gi_at_builtin; refine wpListIn_append_own _ rfl _ _ 37 rfl w1.heap.size 3 i0 (.int .i64 0) 1 8 Try.underlying37 hi hz0 hz1 hz2 rfl (by decide) (.slice (some ⟨gx, 0, none⟩) xn xc) xn ys rfl (HY.out.alloc _) ⟨wr.heap.size, 0, none⟩ 2 2 [.int .i64 (-8), .int .i64 (-9)] rfl rfl HNW.out (by intro u hu; simp at hu; rcases hu with rfl | rfl <;> rfl) (by omega) (by omega) (by simp; omega) ?_; intro v' w6 hown' hgrow _; have hk6 : Kept (fun b => b = gx) wr w6 := (Kept.of_below _ (below_alloc wr _)).trans (T := fun b => b = gx) ⟨hgrow.os, hgrow.tape, hgrow.output, hgrow.size, fun b hb hn => hgrow.block b hb fun e => hn (by simpa [Value.ownBlock] using e)⟩ (fun x _ e => e); have HL : Hid (JE w w1.heap.size m a.L (pre.length + 1) w6 ∧ Kept (fun b => b = w.heap.size + 1 ∨ (Value.slice pS pre.length cS).ownBlock = some b ∨ b = gx) W w6) := ⟨(HZ.out.1.last (by omega) (hk6.wider (fun b _ e => by subst e; rfl))).1, HZ.out.2.trans hk6 (fun b _ e => .inr (.inr e))⟩; have hv6 := (HZ.out.1.last (by omega) (hk6.wider (fun b _ e => by subst e; rfl))).2.1.cell; have hm6 := (HZ.out.1.last (by omega) (hk6.wider (fun b _ e => by subst e; rfl))).2.2.cell; clear hown' hgrow hk6 HZ HY)
          refine ⟨(HKF.out _ HL.out.2).1, (HKF.out _ HL.out.2).2, .inr ?_, ?_⟩
          · rw [HLN.out]; omega
          · rw [HLN.out]; exact HL.out.1
  case done =>
    rintro D ys W hD hSt ⟨hc, hJ⟩ hK
    obtain ⟨v, E, b1, e1, -⟩ := hJ
    obtain ⟨p, c, rfl, -⟩ := own_shape e1.row
    have hb := b1.cell
    have HZ : Hid (Ents w w.heap.size (W.putObj D (.deferred none)) (.slice p ys.length c) E a.L (mostN m a.L.length)) := by
      have : mostN m a.L.length = ys.length := by unfold mostN; omega
      rw [this]
      exact ⟨e1.len, B.own_mono (ownsRow_putObj e1.row (.deferred none) hK rfl) (by omega), fun i x hx => ⟨(e1.each i x hx).1, B.own_mono (ownsRow_putObj (e1.each i x hx).2 (.deferred none) hK rfl) (by omega)⟩, e1.below.trans (belowK_b (w := w) (Nat.le_refl _) _ D _ _ (by omega) hK rfl rfl)⟩
    clear e1 b1 hSt
    gi_wp2
    refine ⟨by simp, .inl ⟨_, _, rfl, run_takeDeferred hK, ?_⟩⟩
    exact ⟨_, by simp [results, Try.results25, go_sem], _, _, rfl, HZ.out⟩
  case stop =>
    rintro D c pre W hD hpre ⟨rfl, hc, hJ⟩ hK
    obtain ⟨v, E, b1, e1, -⟩ := hJ
    obtain ⟨p, c, rfl, -⟩ := own_shape e1.row
    have hb := b1.cell
    have HZ : Hid (Ents w w.heap.size (W.putObj D (.deferred none)) (.slice p pre.length c) E a.L (mostN m a.L.length)) := by
      have : mostN m a.L.length = pre.length := by unfold mostN; omega
      rw [this]
      exact ⟨e1.len, B.own_mono (ownsRow_putObj e1.row (.deferred none) hK rfl) (by omega), fun i x hx => ⟨(e1.each i x hx).1, B.own_mono (ownsRow_putObj (e1.each i x hx).2 (.deferred none) hK rfl) (by omega)⟩, e1.below.trans (belowK_b (w := w) (Nat.le_refl _) _ D _ _ (by omega) hK rfl rfl)⟩
    clear e1 b1
    gi_wp2
    refine ⟨by simp, .inl ⟨_, _, rfl, run_takeDeferred hK, ?_⟩⟩
    exact ⟨_, by simp [results, Try.results25, go_sem], _, _, rfl, HZ.out⟩
end Go.Proofs.Ytkffmglcllhbmaa
