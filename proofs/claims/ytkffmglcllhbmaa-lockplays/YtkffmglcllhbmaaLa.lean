/-
  Layer 14: entries.
-/
import Derived.Test.YtkffmglcllhbmaaKz
import Derived.Maps.AppendAt
namespace Go.Proofs.Ytkffmglcllhbmaa
open Go.RowKit

open Go.Shelf
attribute [local go_sem] Oper.semAt_some
theorem bin_seq (bT bS : Nat) (w : World) : Sem.run Try.prog (binOp .eql 94 (allV bT bS) .nilFunc) w = .ok (.bool false) w := by kernel_rfl
/-- entries, cell by cell -/
def ecs (E : List (Int × Value)) : List Value := E.flatMap fun x => [.int .u64 x.1, x.2, .int .i64 0]
theorem ecs_snoc (E : List (Int × Value)) (x : Int × Value) : ecs (E ++ [x]) = ecs E ++ [.int .u64 x.1, x.2, .int .i64 0] := by simp [ecs]
/-- the first k entries of a list, told in memory of their own -/
structure Ents (w : World) (b : Nat) (w' : World) (v : Value) (E : List (Int × Value)) (L : List En) (k : Nat) : Prop where
  len : E.length = k
  row : w'.ownsRow b 97 3 v k (ecs E)
  each : ∀ (i : Nat) x, E[i]? = some x → x.1 = (en L i).t ∧ w'.ownsRow b 3 1 x.2 (en L i).s.length (B.I64 (en L i).s)
  below : Below w.heap.size w w'
theorem info_ent : (Try.prog.info? 97).map (fun i => (i.zero, i.size, i.bytes)) = some (some (.agg #[.int .u64 0, nils, .int .i64 0]), 3, 40) := by kernel_rfl
/-- what stands between the rounds -/
def JE (wi : World) (s1 : Nat) (m : Int) (L : List En) (k : Nat) (W : World) : Prop := ∃ v E, Boxed W (wi.heap.size + 1) 53 v ∧ Ents wi s1 W v E L k ∧ Boxed W wi.heap.size 3 (.int .i64 m) ∧ s1 ≤ W.heap.size
/-- and of the element that was handed over -/
def JX (wi : World) (s1 : Nat) (m : Int) (L : List En) (x : TV) (k : Nat) (W : World) : Prop := ∃ v E, Boxed W (wi.heap.size + 1) 53 v ∧ Ents wi s1 W v E L k ∧ Boxed W wi.heap.size 3 (.int .i64 m) ∧ s1 ≤ W.heap.size ∧ x.t = (en L k).t ∧ x.n = (en L k).s.length ∧ W.ownsRow s1 3 1 x.val x.n (B.I64 (en L k).s) ∧ (∀ y ∈ E, ∀ g, y.2.ownBlock = some g → x.val.ownBlock ≠ some g)
section
variable {wi : World} {s1 B : Nat} {m : Int} {L : List En}
theorem own_stays {X Y : World} {row : Option Nat} (hg : X.grownBy Y row) (hr : ∀ r, row = some r → B ≤ r ∧ ∃ o : Obj, X.heap[r]? = some o ∧ o.isCells = false) {base size n : Nat} {e : TypeId} {v : Value} {xs : List Value} (h : X.ownsRow base e size v n xs) : Y.ownsRow base e size v n xs := by
  refine h.kept hg ?_
  rcases h.2 with ⟨rfl, _⟩ | ⟨g, cap, cur, rfl, _, hgb, _⟩
  · exact .inl rfl
  · refine .inr fun e' => ?_
    obtain ⟨-, o, ho, hc⟩ := hr g (by simpa [Value.ownBlock] using e'.symm)
    rw [hgb] at ho; cases ho; cases hc
theorem Ents.stays {X Y : World} {row : Option Nat} (hB : wi.heap.size ≤ B) (hg : X.grownBy Y row) (hr : ∀ r, row = some r → B ≤ r ∧ ∃ o : Obj, X.heap[r]? = some o ∧ o.isCells = false) {v : Value} {E : List (Int × Value)} {k : Nat} (h : Ents wi s1 X v E L k) : Ents wi s1 Y v E L k :=
  ⟨h.len, own_stays hg hr h.row, fun i x hx => ⟨(h.each i x hx).1, own_stays hg hr (h.each i x hx).2⟩, (ownFrom_below (β := Unit) (Nat.le_refl _) hB) () X Y row h.below hg hr⟩
theorem je_own (hB : wi.heap.size ≤ B) : OwnFrom B (fun (pre : List TV) W => JE wi s1 m L pre.length W) := by
  rintro pre X Y row ⟨v, E, hb, he, hm, hs⟩ hg hr
  exact ⟨v, E, (own_box (β := Unit) B _ _ _) () X Y row hb hg hr, he.stays hB hg hr, (own_box (β := Unit) B _ _ _) () X Y row hm hg hr, Nat.le_trans hs hg.size⟩
theorem jx_own (hB : wi.heap.size ≤ B) (x : TV) (C : Prop) : OwnFrom B (fun (_ : Unit) W => C ∧ ∃ k, JX wi s1 m L x k W) := by
  rintro _ X Y row ⟨hC, k, v, E, hb, he, hm, hs, h1, h2, h3, h4⟩ hg hr
  exact ⟨hC, k, v, E, (own_box (β := Unit) B _ _ _) () X Y row hb hg hr, he.stays hB hg hr, (own_box (β := Unit) B _ _ _) () X Y row hm hg hr, Nat.le_trans hs hg.size, h1, h2, own_stays hg hr h3, h4⟩
/-- what is laid, is not what is handed over later -/
theorem JE.give {pre : List TV} {x : TV} {W0 W : World} (h : JE wi s1 m L pre.length W0) (hb : Below W0.heap.size W0 W) (hT : TT L pre x W0 W) : JX wi s1 m L x pre.length W := by
  obtain ⟨v, E, h1, h2, h3, h4⟩ := h
  obtain ⟨t1, t2, t3⟩ := hT
  have hs := h2.below.size
  have hs2 := hb.size
  refine ⟨v, E, (hb.block _ h1.lt).trans h1, ⟨h2.len, h2.row.kept (grown_of_below hb) (by cases hh : v.ownBlock <;> simp), fun i y hy => ⟨(h2.each i y hy).1, B.own_later (h2.each i y hy).2 hb⟩, below_then h2.below hb⟩, (hb.block _ h3.lt).trans h3, by omega, t1, t2, B.own_mono t3 (by omega), fun y hy g hg e => ?_⟩
  obtain ⟨i, hi, rfl⟩ := List.getElem_of_mem hy
  have := ((h2.each i _ (List.getElem?_eq_getElem hi)).2.lt g hg).2
  have := (t3.lt g e).1
  omega
end
theorem Ents.mono {w w' : World} {b b' : Nat} {v : Value} {E : List (Int × Value)} {L : List En} {k : Nat} (h : Ents w b w' v E L k) (hb : b' ≤ b) : Ents w b' w' v E L k := ⟨h.len, B.own_mono h.row hb, fun i x hx => ⟨(h.each i x hx).1, B.own_mono (h.each i x hx).2 hb⟩, h.below⟩
theorem keeps_from_kept {S : Nat → Prop} {W W' : World} (hk : Kept S W W') (hS : ∀ b, S b → ∃ cs t z, W.heap[b]? = some (.cells cs t z)) (B : Nat) : KeepsFrom B W W' := ⟨hk.size, fun k o _ hk' ho => (hk.block k (Array.getElem?_eq_some_iff.1 hk').1 (fun e => by obtain ⟨cs, t, z, h⟩ := hS k e; rw [h] at hk'; cases hk'; cases ho)).trans hk'⟩
theorem kx_of_kept {S : Nat → Prop} {W W' : World} {s1 b0 : Nat} (hk : Kept S W W') (hS : ∀ b, S b → b = b0 ∨ s1 ≤ b) (hs : s1 ≤ W.heap.size) : Kx s1 b0 W W' := ⟨hk.os, hk.tape, hk.output, hk.size, fun k h1 h2 => hk.block k (by omega) (fun e => by rcases hS k e with e | e <;> omega)⟩
theorem run_copy {W : World} {base : Nat} {g n c : Nat} {xs : List Int} (h : W.ownsRow base 3 1 (.slice (some ⟨g, 0, none⟩) n c) n (B.I64 xs)) (hn : n ≤ 1000) : ∃ p3 c3 W', (Builtin.append_ #[37, 37] 37 #[.slice (some ⟨W.heap.size, 0, none⟩) 0 0, .slice (some ⟨g, 0, none⟩) n c]).run Try.prog (W.alloc (.cells #[] 3)) = .ok (.slice p3 n c3) W' ∧ W'.ownsRow W.heap.size 3 1 (.slice p3 n c3) n (B.I64 xs) ∧ Below W.heap.size W W' := by
  obtain ⟨i0, hi, hz0, hz1, hz2⟩ := info_parts B.info3
  have hml : 10000 ≤ maxLen := by decide
  have hl : (B.I64 xs).length = n := by have := h.1; omega
  have he := lit_own W W.heap.size (Nat.le_refl _) [] 3 (by decide)
  obtain ⟨v', W', hr, h2, h3, -, h5⟩ := run_append_own_at (P := Try.prog) (W.alloc (.cells #[] 3)) W.heap.size 37 37 3 i0 (.int .i64 0) 1 8 Try.underlying37 hi hz0 hz1 hz2 rfl (by decide) (.slice (some ⟨W.heap.size, 0, none⟩) 0 0) 0 [] he ⟨g, 0, none⟩ n c (B.I64 xs) (by omega) ((B.own_later h (below_alloc _ _)).cells (g := g) rfl) (by intro u hu; obtain ⟨z, -, rfl⟩ := List.mem_map.1 hu; rfl) (by omega) (by omega) (by simp)
  rw [Nat.zero_add, List.nil_append] at h2
  obtain ⟨p3, c3, e, -⟩ := own_shape h2
  subst e
  refine ⟨p3, c3, W', hr, h2, ?_⟩
  have hk : Kept (fun b => b = W.heap.size) (W.alloc (.cells #[] 3)) W' := ⟨h3.os, h3.tape, h3.output, h3.size, fun b hb hn => h3.block b hb fun e => hn (by simpa [Value.ownBlock] using e)⟩
  exact hk.into (below_alloc W _) (fun b hb e => by omega) (Nat.le_refl _)
/-- between the region and the end of a round: the entry is told, the list that was handed over may hold whatever -/
def JZ (wi : World) (s1 : Nat) (m : Int) (L : List En) (x : TV) (k : Nat) (v : Value) (W : World) : Prop := ∃ E ys, Boxed W (wi.heap.size + 1) 53 v ∧ Ents wi s1 W v E L k ∧ Boxed W wi.heap.size 3 (.int .i64 m) ∧ s1 ≤ W.heap.size ∧ W.ownsRow s1 3 1 x.val x.n ys ∧ ∀ y ∈ E, ∀ g, y.2.ownBlock = some g → x.val.ownBlock ≠ some g
theorem JX.step {wi : World} {s1 : Nat} {m : Int} {L : List En} {x : TV} {k : Nat} {W : World} (h : JX wi s1 m L x k W) (hne : (en L k).s ≠ []) (hk : k ≤ 10000) (h64 : (en L k).s.length ≤ 64) (hs1 : wi.heap.size + 2 ≤ s1) :
    ∃ gx vS p3 c3 p2 c2 w3 w4, x.p = some ⟨gx, 0, none⟩ ∧ Boxed W (wi.heap.size + 1) 53 vS ∧ (∃ p c, vS = .slice p k c) ∧ W.drew.cell? ⟨wi.heap.size + 1, 0, none⟩ = some vS ∧ (W.drew.alloc (.cells #[] 3)).cell? ⟨wi.heap.size + 1, 0, none⟩ = some vS ∧ w3.cell? ⟨wi.heap.size + 1, 0, none⟩ = some vS ∧ (w3.alloc (.cells #[.int .u64 x.t, .slice p3 x.n c3, .int .i64 0] 97)).cell? ⟨wi.heap.size + 1, 0, none⟩ = some vS ∧
      (Builtin.append_ #[37, 37] 37 #[.slice (some ⟨W.drew.heap.size, 0, none⟩) 0 0, .slice x.p x.n x.c]).run Try.prog (W.drew.alloc (.cells #[] 3)) = .ok (.slice p3 x.n c3) w3 ∧
      (Builtin.append_ #[53, 53] 53 #[vS, .slice (some ⟨w3.heap.size, 0, none⟩) 1 1]).run Try.prog (w3.alloc (.cells #[.int .u64 x.t, .slice p3 x.n c3, .int .i64 0] 97)) = .ok (.slice p2 (k + 1) c2) w4 ∧
      w4.cell? ⟨wi.heap.size + 1, 0, none⟩ = some vS ∧ w4.frozen? ⟨wi.heap.size + 1, 0, none⟩ = false ∧
      JZ wi s1 m L x (k + 1) (.slice p2 (k + 1) c2) (w4.setCell ⟨wi.heap.size + 1, 0, none⟩ (.slice p2 (k + 1) c2)) ∧ Kept (fun b => b = wi.heap.size + 1 ∨ vS.ownBlock = some b) W (w4.setCell ⟨wi.heap.size + 1, 0, none⟩ (.slice p2 (k + 1) c2)) ∧ (∀ g, vS.ownBlock = some g → s1 ≤ g ∧ ∃ cs t z, W.heap[g]? = some (.cells cs t z)) := by
  obtain ⟨vS, E, hv, hE, hm, hsz, ht, hn, hx, hsep⟩ := h
  obtain ⟨i1, hi1, hy0, hy1, hy2⟩ := info_parts info_ent
  have hml : 100000 ≤ maxLen := by decide
  have hpos : 0 < x.n := by rw [hn]; exact List.length_pos_iff.2 hne
  have hbd : Below W.heap.size W W.drew := (Below.refl _ W).drew
  obtain ⟨gx, cx, ex, -⟩ : ∃ g c, x.val = .slice (some ⟨g, 0, none⟩) x.n c ∧ True := by
    rcases hx.2 with ⟨e1, e2⟩ | ⟨g, cap, cur, e1, _⟩
    · omega
    · exact ⟨g, cap, e1, trivial⟩
  simp only [TV.val, Value.slice.injEq, true_and] at ex
  obtain ⟨exp, exc⟩ := ex
  have hxd : W.drew.ownsRow s1 3 1 (.slice (some ⟨gx, 0, none⟩) x.n x.c) x.n (B.I64 (en L k).s) := by have := B.own_later hx hbd; rwa [TV.val, exp] at this
  obtain ⟨p3, c3, w3, hap1, o3, b3⟩ := run_copy hxd (by omega)
  have hbW3 : Below W.heap.size W w3 := below_then hbd b3
  have hv3 : Boxed w3 (wi.heap.size + 1) 53 vS := (hbW3.block _ hv.lt).trans hv
  have hE3 : Ents wi s1 w3 vS E L k := ⟨hE.len, hE.row.kept (grown_of_below hbW3) (by cases hh : vS.ownBlock <;> simp), fun i y hy => ⟨(hE.each i y hy).1, B.own_later (hE.each i y hy).2 hbW3⟩, below_then hE.below hbW3⟩
  have hs3 := hbW3.size
  have hnews : ∀ j u, [Value.int .u64 x.t, .slice p3 x.n c3, .int .i64 0][j]? = some u → (w3.alloc (.cells #[.int .u64 x.t, .slice p3 x.n c3, .int .i64 0] 97)).cell? ((⟨w3.heap.size, 0, none⟩ : Addr).add j) = some u := fun j u hj => by
    rw [Go.WideShapes.add_plain, Nat.zero_add, cell_of_row _ w3.heap.size j _ 97 (0, 0) (heap_alloc_new w3 _)]; simpa using hj
  obtain ⟨v2, w4, hap2, r4, g4, -, h54⟩ := run_append_own_at (P := Try.prog) (w3.alloc (.cells #[.int .u64 x.t, .slice p3 x.n c3, .int .i64 0] 97)) s1 53 53 97 i1 _ 3 40 Try.underlying53 hi1 hy0 hy1 hy2 rfl (by decide) vS k (ecs E) (hE3.row.alloc _) ⟨w3.heap.size, 0, none⟩ 1 1 [.int .u64 x.t, .slice p3 x.n c3, .int .i64 0] rfl hnews (by intro u hu; simp at hu; rcases hu with rfl | rfl | rfl <;> rfl) (by omega) (by omega) (by simp; omega)
  obtain ⟨p2, c2, e2, -⟩ := own_shape r4
  subst e2
  have hv4 : Boxed w4 (wi.heap.size + 1) 53 vS := (hv3.alloc _).kept g4 (hv3.not_row (by decide) hE3.row)
  obtain ⟨w5, hw5⟩ : ∃ w5, w4.setCell ⟨wi.heap.size + 1, 0, none⟩ (.slice p2 (k + 1) c2) = w5 := ⟨_, rfl⟩
  have hv5 : Boxed w5 (wi.heap.size + 1) 53 (.slice p2 (k + 1) c2) := by rw [← hw5]; exact hv4.set _
  have hr5 : w5.ownsRow s1 97 3 (.slice p2 (k + 1) c2) (k + 1) (ecs (E ++ [(x.t, .slice p3 x.n c3)])) := by rw [← hw5, ecs_snoc]; exact r4.kept (grownBy_setCell' w4 _ _) (.inr (hv4.not_row (by decide) r4).symm)
  have hkp : Kept (fun b => b = wi.heap.size + 1 ∨ vS.ownBlock = some b) w3 w5 := by
    rw [← hw5]
    have h1 : Kept (fun b => vS.ownBlock = some b) (w3.alloc (.cells #[.int .u64 x.t, .slice p3 x.n c3, .int .i64 0] 97)) w4 := ⟨g4.os, g4.tape, g4.output, g4.size, fun b hb hn => g4.block b hb fun e => hn e.symm⟩
    exact ((Kept.of_below (fun b => b = wi.heap.size + 1 ∨ vS.ownBlock = some b) (below_alloc w3 _)).trans h1 (fun x _ e => .inr e)).trans (Kept.setCell _ 0 _) (fun x _ e => .inl e)
  have hkW : Kept (fun b => b = wi.heap.size + 1 ∨ vS.ownBlock = some b) W w5 := (Kept.of_below _ hbW3).trans hkp (fun _ _ e => e)
  have hS3 : ∀ {base n : Nat} {v : Value} {xs : List Value}, w3.ownsRow base 3 1 v n xs → s1 ≤ base → ∀ g, v.ownBlock = some g → ¬ (g = wi.heap.size + 1 ∨ vS.ownBlock = some g) := fun {base n v xs} ho hb g hg hs => by
    rcases hs with hs | hs
    · have := (ho.lt g hg).1; omega
    · rcases ho.2 with ⟨rfl, _⟩ | ⟨g', cap, cur, rfl, _, hgb, _⟩
      · cases hg
      · cases hg
        rcases hE3.row.2 with ⟨e1, _⟩ | ⟨g', cap, cur, e1, _, hgb', _⟩
        · rw [e1] at hs; cases hs
        · rw [e1] at hs; cases hs; rw [hgb] at hgb'; cases hgb'
  have far3 : ∀ {base n : Nat} {v : Value} {xs : List Value}, w3.ownsRow base 3 1 v n xs → s1 ≤ base → w5.ownsRow base 3 1 v n xs := fun {base n v xs} ho hb => by
    refine ⟨ho.1, ?_⟩
    rcases ho.2 with h | ⟨g, cap, cur, rfl, e2, e3, r⟩
    · exact .inl h
    · exact .inr ⟨g, cap, cur, rfl, e2, (hkp.block g (ho.lt g rfl).2 (hS3 ho hb g rfl)).trans e3, r⟩
  have hw3s : s1 ≤ W.drew.heap.size := hsz
  have hx3 := B.own_later hx hbW3
  have hc1 : (W.drew.alloc (.cells #[] 3)).cell? ⟨wi.heap.size + 1, 0, none⟩ = some vS := ((show Boxed W.drew (wi.heap.size + 1) 53 vS from hv).alloc _).cell
  refine ⟨gx, vS, p3, c3, p2, c2, w3, w4, exp, hv, ?_, (show Boxed W.drew (wi.heap.size + 1) 53 vS from hv).cell, hc1, hv3.cell, (hv3.alloc _).cell, by rw [exp]; exact hap1, hap2, hv4.cell, hv4.frozen, ?_, by rw [hw5]; exact hkW, fun g hg => ⟨(hE.row.lt g hg).1, ?_⟩⟩
  · obtain ⟨p, c, e, -⟩ := own_shape hE.row
    exact ⟨p, c, e⟩
  · rw [hw5]
    refine ⟨E ++ [(x.t, .slice p3 x.n c3)], _, hv5, ⟨by rw [List.length_append, hE.len]; rfl, hr5, fun i y hy => ?_, ?_⟩, ?_, Nat.le_trans hs3 hkp.size |> Nat.le_trans hsz, far3 hx3 (Nat.le_refl _), fun y hy g hg e => ?_⟩
    · rcases Nat.lt_or_ge i E.length with a | a
      · rw [List.getElem?_append_left a] at hy
        exact ⟨(hE3.each i y hy).1, far3 (hE3.each i y hy).2 (Nat.le_refl _)⟩
      · rw [List.getElem?_append_right a] at hy
        have hm2 := (List.getElem?_eq_some_iff.1 hy).1
        simp only [List.length_singleton] at hm2
        have ei : i = k := by have := hE.len; omega
        subst ei
        rw [hE.len] at hy
        simp at hy
        subst hy
        refine ⟨ht, ?_⟩
        rw [← hn]
        exact B.own_mono (far3 o3 hw3s) hw3s
    · exact hkp.into hE3.below (fun b hb e => by
        rcases e with e | e
        · omega
        · have := (hE3.row.lt b e).1; omega) (Nat.le_refl _)
    · exact (hkp.block _ (show wi.heap.size < w3.heap.size by have := hm.lt; omega) (fun e => by
        rcases e with e | e
        · omega
        · have := (hE3.row.lt _ e).1; omega)).trans ((hbW3.block _ hm.lt).trans hm)
    · rcases List.mem_append.1 hy with hy | hy
      · exact hsep y hy g hg e
      · obtain rfl := List.mem_singleton.1 hy
        have h1 := (o3.lt g hg).1
        have h2 := (hx.lt g e).2
        have h3 : W.drew.heap.size = W.heap.size := rfl
        omega
  · rcases hE.row.2 with ⟨e1, _⟩ | ⟨g', cap, cur, e1, _, hgb', _⟩
    · rw [e1] at hg; cases hg
    · rw [e1] at hg; cases hg; exact ⟨_, _, _, hgb'⟩
end Go.Proofs.Ytkffmglcllhbmaa
