/-
  Layer 14: told.
-/
import Derived.Test.YtkffmglcllhbmaaRh
namespace Go.Proofs.Ytkffmglcllhbmaa
open Go.RowKit

/-- what was handed out, and is written over -/
structure Tl (w wr : World) (h : Value) (dh : Nat) (q : Value) (lq : Nat) : Prop where
  h : ∃ ys, wr.ownsRow w.heap.size 3 1 h dh ys
  q : ∃ zs, wr.ownsRow w.heap.size 30 1 q lq zs
  b : Below w.heap.size w wr
section
variable {w wr w' W : World} {G : Nat → Prop} {R n : Nat} {v u : Value} {a : Lk} {es : List Er} {L : List En} {F : Ft} {h q : Value} {dh lq : Nat}
theorem Tl.later (t : Tl w wr h dh q lq) (hb : Below wr.heap.size wr w') : Tl w w' h dh q lq := by
  obtain ⟨⟨ys, h1⟩, ⟨zs, h2⟩, h3⟩ := t
  exact ⟨⟨ys, O.own_later h1 hb⟩, ⟨zs, O.own_later h2 hb⟩, below_then h3 hb⟩
theorem Tl.setH (t : Tl w wr h dh q lq) {g : Nat} (hg : h.ownBlock = some g) (j : Nat) (x : Value) : Tl w (wr.setCell ⟨g, j, none⟩ x) h dh q lq := by
  obtain ⟨⟨ys, h1⟩, ⟨zs, h2⟩, h3⟩ := t
  have hlo := (h1.lt g hg).1
  exact ⟨⟨_, O.own_set h1 hg j x⟩, ⟨zs, O.own_far h2 (Kept.setCell g j x) fun g' hg' e => by subst e; exact O.own_ne h1 h2 (by decide) hg hg'⟩, (Kept.setCell g j x).into h3 (fun b hb e => by omega) (Nat.le_refl _)⟩
theorem Tl.setQ (t : Tl w wr h dh q lq) {g : Nat} (hg : q.ownBlock = some g) (j : Nat) (x : Value) : Tl w (wr.setCell ⟨g, j, none⟩ x) h dh q lq := by
  obtain ⟨⟨ys, h1⟩, ⟨zs, h2⟩, h3⟩ := t
  have hlo := (h2.lt g hg).1
  exact ⟨⟨ys, O.own_far h1 (Kept.setCell g j x) fun g' hg' e => by subst e; exact O.own_ne h2 h1 (by decide) hg hg'⟩, ⟨_, O.own_set h2 hg j x⟩, (Kept.setCell g j x).into h3 (fun b hb e => by omega) (Nat.le_refl _)⟩
theorem own_two (w : World) (e : TypeId) (x y : Value) : (w.alloc (.cells #[x, y] e)).ownsRow 0 e 1 (.slice (some ⟨w.heap.size, 0, none⟩) 2 2) 2 [x, y] :=
  ⟨rfl, .inr ⟨w.heap.size, 2, _, rfl, Nat.zero_le _, heap_alloc_new w _, Nat.le_refl _, by decide, rfl, rfl⟩⟩
theorem Tl.appH (t : Tl w wr h dh q lq) {w5 : World} (hk : Kept (fun b => h.ownBlock = some b) wr w5) : Below w.heap.size w w5 ∧ ∃ zs, w5.ownsRow w.heap.size 30 1 q lq zs := by
  obtain ⟨⟨ys, h1⟩, ⟨zs, h2⟩, h3⟩ := t
  exact ⟨hk.into h3 (fun b hb e => by have := (h1.lt b e).1; omega) (Nat.le_refl _), zs, O.own_far h2 hk fun g hg e => O.own_ne h1 h2 (by decide) e hg⟩
theorem bne_i (x : Int) : (x != x) = false ∧ (x == x) = true := by simp
theorem bne_b (x : Bool) : (x != x) = false ∧ (x == x) = true := by simp
set_option maxHeartbeats 8000000 in
set_option maxRecDepth 100000 in
theorem told_at (hp : PL w F n a) (hr : RL w G R v a es) (hn : n ≤ 60) (t : Int) (ht : U64 t) (b : Int) : Calls Try.prog 52 #[qp F.Q, qp R, .int .u64 t, .int .i64 b] w fun e w' => e = .returned (.bool true) ∧ Below w.heap.size w w' := by
  have hl : a.L.length ≤ 60 := Nat.le_trans hp.len hn
  have HP : Hid (PL w F n a) := hp
  have HR : Hid (RL w G R v a es) := hr
  have OK : Hid (Ok a) := hp.ok
  have HT : Hid (U64 t) := ht
  have hdh : (ent a.L t).d ≤ 64 := Nat.le_trans (ent_don hp.ok t) (ent_len hp.ok t)
  have hql : (qS a.L b).length ≤ 60 := Nat.le_trans (qS_len _ _) hl
  clear hp hr ht
  obtain ⟨q1, q2⟩ := bne_i (ent a.L t).nx
  obtain ⟨q3, q4⟩ := bne_b (ent a.L t).nxB
  obtain ⟨q5, q6⟩ := bne_b (rdyS a.L t)
  obtain ⟨q7, q8⟩ := bne_i (hldN a.L b)
  obtain ⟨q9, q0⟩ := bne_b (hldB a.L b)
  go_enter Try.func52, Try.ntmps52
  go_wp2_with fail
  refine (next_at HP.out HT.out).mono ?_
  rintro e w1 ⟨rfl, hb⟩
  have B1 : Hid (Below w.heap.size w w1) := hb
  clear hb
  go_wp2_with fail
  refine (rnext_at (HR.out.later B1.out) OK.out (by omega) t).mono ?_
  rintro e w2 ⟨rfl, m, hm⟩
  have B2 : Hid (Below w.heap.size w w2) := by subst hm; exact below_then B1.out (below_drawn m)
  clear hm B1
  go_wp2_with fail
  refine (ready_at (HP.out.later B2.out) (by omega) HT.out).mono ?_
  rintro e w3 ⟨rfl, hb⟩
  have B3 : Hid (Below w.heap.size w w3) := below_then B2.out hb
  clear hb B2
  go_wp2_with fail
  refine (rready_at (HR.out.later B3.out) OK.out (by omega) t).mono ?_
  rintro e w4 ⟨rfl, hb⟩
  have B4 : Hid (Below w.heap.size w w4) := below_then B3.out hb
  clear hb B3
  go_wp2_with fail
  refine (held_at (HP.out.later B4.out) HT.out).mono ?_
  rintro e w5 ⟨qh, ch, rfl, hm⟩
  have M5 : Hid (B.Made w4 w5 qh (ent a.L t).d ch (ent a.L t).held) := hm
  have B5 : Hid (Below w.heap.size w w5) := below_then B4.out hm.below
  clear hm
  go_wp2_with fail
  refine (queue_at (HP.out.later B5.out) (by omega) b).mono ?_
  rintro e w6 ⟨vq, rfl, hm⟩
  obtain ⟨pq, cq, rfl, hU, -, -⟩ := hm.read
  have M6 : Hid (MadeU w5 w6 (.slice pq (qS a.L b).length cq) (qS a.L b)) := hm
  have U6 : Hid (UIn w6 pq (qS a.L b).length (qS a.L b)) := hU
  have B6 : Hid (Below w.heap.size w w6) := below_then B5.out hm.below
  have T6 : Hid (Tl w w6 (.slice qh (ent a.L t).d ch) (ent a.L t).d (.slice pq (qS a.L b).length cq) (qS a.L b).length) := ⟨⟨_, O.own_later (B.own_mono M5.out.own B4.out.size) hm.below⟩, ⟨_, B.own_mono hm.own B5.out.size⟩, B6.out⟩
  have I6 : Hid (B.IIn w6 qh (ent a.L t).d (ent a.L t).held) := M5.out.read.later hm.below
  clear hm hU M5 M6 B4 B5
  go_wp2_with fail
  refine (holder_at (HP.out.later B6.out) (by omega) b).mono ?_
  rintro e w7 ⟨rfl, hb⟩
  have B7 : Hid (Below w6.heap.size w6 w7) := hb
  clear hb
  go_wp2_with fail
  refine (rholder_at (HR.out.later (below_then B6.out B7.out)) OK.out (by omega) b).mono ?_
  rintro e w8 ⟨rfl, rfl⟩
  go_wp2_with fail
  refine (rheld_at (HR.out.later (below_then B6.out B7.out)) OK.out (by omega) t).mono ?_
  rintro e w9 ⟨q9', c9, rfl, hm⟩
  have B9 : Hid (Below w6.heap.size w6 w9) := below_then B7.out hm.below
  have I9 : Hid (B.IIn w9 q9' (ent a.L t).d (ent a.L t).held) := hm.read
  clear hm B7
  go_wp2_with fail
  refine (sameI_eq _ _ _ _ _ _ (ent a.L t).held w9 (I6.out.later B9.out) I9.out (by omega)).mono ?_
  rintro e w10 ⟨rfl, m, hm⟩
  have B10 : Hid (Below w6.heap.size w6 w10) := by subst hm; exact below_then B9.out (below_drawn m)
  clear hm B9 I9 I6
  go_wp2_with fail
  refine (rqueue_at (HR.out.later (below_then B6.out B10.out)) OK.out (by omega) b).mono ?_
  rintro e w11 ⟨v11, rfl, hm⟩
  obtain ⟨p11, c11, rfl, hU, -, -⟩ := hm.read
  have U11 : Hid (UIn w11 p11 (qS a.L b).length (qS a.L b)) := hU
  have B11 : Hid (Below w6.heap.size w6 w11) := below_then B10.out hm.below
  clear hm hU B10
  go_wp2_with fail
  refine (sameT_eq _ _ _ _ _ _ (qS a.L b) w11 (U6.out.later B11.out) U11.out (by omega)).mono ?_
  rintro e w12 ⟨rfl, m, hm⟩
  have T12 : Hid (Tl w w12 (.slice qh (ent a.L t).d ch) (ent a.L t).d (.slice pq (qS a.L b).length cq) (qS a.L b).length) := by subst hm; exact T6.out.later (below_then B11.out (below_drawn m))
  clear hm B11 U11 U6 T6 B6 HP HR OK HT
  generalize (ent a.L t).d = dh at *
  generalize (qS a.L b).length = lq at *
  go_wp2_with fail
  go_loopw [91] (fun i wr => ∃ j : Nat, j ≤ dh ∧ i = .int .i64 j ∧ Hid (Tl w wr (.slice qh dh ch) dh (.slice pq lq cq) lq)) (fun i _ => dh - (intOf i).toNat)
  case atStart => exact ⟨0, Nat.zero_le _, rfl, T12⟩
  case round =>
    clear T12
    obtain ⟨j, hj, rfl, T1⟩ := hrel
    by_cases hlt : j < dh
    · have i1 : (j : Int) < (dh : Int) := by omega
      obtain ⟨ys, hy⟩ := T1.out.h
      obtain ⟨g, cp, e1, -, hcs, hfz⟩ := O.own_some hy (by omega)
      simp only [Value.slice.injEq, true_and] at e1
      obtain ⟨rfl, rfl⟩ := e1
      obtain ⟨x, hx⟩ : ∃ x, ys[j]? = some x := ⟨_, List.getElem?_eq_getElem (by have := hy.1; omega)⟩
      have z1 := hcs j x hx
      have z2 := hfz j
      have T2 : Hid (Tl w (wr.setCell ⟨g, j, none⟩ (.int .i64 (-7))) (.slice (some ⟨g, 0, none⟩) dh ch) dh (.slice pq lq cq) lq) := T1.out.setH rfl j _
      clear hcs hfz hx hy
      go_wp2_with fail
      go_roundw
      case rel => exact ⟨j + 1, by omega, by go_num, T2⟩
      case measure => simp [intOf]; omega
    · have i1 : ¬ (j : Int) < (dh : Int) := by omega
      go_wp2_with fail
      obtain ⟨wB, hwB⟩ : ∃ x, x = wr := ⟨_, rfl⟩
      subst hwB
      go_loopw [100] (fun i wr => ∃ j : Nat, j ≤ lq ∧ i = .int .i64 j ∧ Hid (Tl w wr (.slice qh dh ch) dh (.slice pq lq cq) lq)) (fun i _ => lq - (intOf i).toNat)
      case atStart => exact ⟨0, Nat.zero_le _, rfl, T1⟩
      case round =>
        clear T1
        obtain ⟨k, hk, rfl, T1⟩ := hrel
        by_cases hlk : k < lq
        · have k1 : (k : Int) < (lq : Int) := by omega
          obtain ⟨ys, hy⟩ := T1.out.q
          obtain ⟨g, cp, e1, -, hcs, hfz⟩ := O.own_some hy (by omega)
          simp only [Value.slice.injEq, true_and] at e1
          obtain ⟨rfl, rfl⟩ := e1
          obtain ⟨x, hx⟩ : ∃ x, ys[k]? = some x := ⟨_, List.getElem?_eq_getElem (by have := hy.1; omega)⟩
          have z1 := hcs k x hx
          have z2 := hfz k
          have T2 : Hid (Tl w (wr.setCell ⟨g, k, none⟩ (.int .u64 77)) (.slice qh dh ch) dh (.slice (some ⟨g, 0, none⟩) lq cq) lq) := T1.out.setQ rfl k _
          clear hcs hfz hx hy
          go_wp2_with fail
          go_roundw
          case rel => exact ⟨k + 1, by omega, by go_num, T2⟩
          case measure => simp [intOf]; omega
        · have k1 : ¬ (k : Int) < (lq : Int) := by omega
          obtain ⟨ys, hy⟩ := T1.out.h
          have HY : Hid (wr.ownsRow w.heap.size 3 1 (.slice qh dh ch) dh ys) := hy
          clear hy
          have BW : Hid (w.heap.size ≤ wr.heap.size) := T1.out.b.size
          go_wp2_with (at_builtin; (first
            | (refine O.wpList_own_any (v := .slice qh dh ch) (u := .slice (some ⟨wr.heap.size, 0, none⟩) 2 2) (n := dh) (m := 2) (base := w.heap.size) (base' := 0) rfl (.tmp 107) (.tmp 108) O.elI rfl rfl (O.own_later HY.out (below_alloc wr _)) rfl (own_two wr 3 (.int .i64 (-8)) (.int .i64 (-9))) (by intro z hz; simp only [List.mem_cons, List.not_mem_nil, or_false] at hz; rcases hz with rfl | rfl <;> rfl) (by omega) (Nat.le_trans BW.out (below_alloc wr _).size) ?_; intro v1 w5 ho hk hv; obtain ⟨p5, c5, e5⟩ := O.own_shape ho; subst e5; have H5 : Hid (Below w.heap.size w w5 ∧ ∃ zs, w5.ownsRow w.heap.size 30 1 (.slice pq lq cq) lq zs) := (T1.out.later (below_alloc wr _)).appH hk; clear ho hk hv; obtain ⟨zs, hz⟩ := H5.out.2; have HZ : Hid (w5.ownsRow w.heap.size 30 1 (.slice pq lq cq) lq zs) := hz; clear hz)
            | (refine O.wpList_own_any (v := .slice pq lq cq) (u := .slice (some ⟨w5.heap.size, 0, none⟩) 2 2) (n := lq) (m := 2) (base := w.heap.size) (base' := 0) rfl (.tmp 110) (.tmp 111) O.elU rfl rfl (O.own_later HZ.out (below_alloc w5 _)) rfl (own_two w5 30 (.int .u64 78) (.int .u64 79)) (by intro z hz; simp only [List.mem_cons, List.not_mem_nil, or_false] at hz; rcases hz with rfl | rfl <;> rfl) (by omega) (Nat.le_trans H5.out.1.size (below_alloc w5 _).size) ?_; intro v2 w6 ho hk hv; obtain ⟨p6, c6, e6⟩ := O.own_shape ho; subst e6; have H6 : Hid (Below w.heap.size w w6) := hk.into (below_then H5.out.1 (below_alloc w5 _)) (fun b hb e => by have := (HZ.out.lt b e).1; omega) (Nat.le_refl _); clear ho hk hv)))
          go_ret
          exact ⟨rfl, H6.out⟩
end
end Go.Proofs.Ytkffmglcllhbmaa
