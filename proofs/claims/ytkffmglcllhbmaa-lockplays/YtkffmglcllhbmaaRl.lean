/-
  Layer 14: plays, whole.
-/
import Derived.Test.YtkffmglcllhbmaaRk
namespace Go.Proofs.Ytkffmglcllhbmaa
open Go.RowKit

section
variable {w0 w w' wa w2 w3 w4 : World} {G : Nat → Prop} {R n : Nat} {v : Value} {a a' : Lk} {es : List Er} {F F' : Ft}
theorem Pr.later (h : Pr w0 w F n R G a) (hb : Below w.heap.size w w') : Pr w0 w' F n R G a := by
  obtain ⟨v, es, hr⟩ := h.rl
  have s := hb.size
  exact ⟨h.pl.later hb, ⟨v, es, hr.later hb⟩, fun g hg => by have := h.fl g hg; omega, fun g hg => by have := h.gl g hg; omega, h.gf, h.gR, h.lo, h.rlo, below_then h.below hb⟩
theorem Tn.ahead {N n' : Nat} {G' : Nat → Prop} (ht : Tn wa w' F R G N n' F' G' a') (hb : Below w.heap.size w wa) : Tn w w' F R G N n' F' G' a' := by
  have s := hb.size
  exact ⟨ht.pl, ht.rl, (Kept.of_below _ hb).trans ht.kept (fun _ _ e => e), ⟨ht.grw.q, fun b hb' => or_r (ht.grw.has b hb') (fun e => by omega), fun b hb' => or_r (ht.grw.g b hb') (fun e => ⟨by omega, e.2⟩)⟩, ht.g1, fun g hg => or_r (ht.g2 g hg) (fun e => ⟨by omega, e.2⟩), ht.gf, ht.bl⟩
set_option maxHeartbeats 8000000 in
set_option maxRecDepth 100000 in
theorem plays_at {k wh t b : Int} {p : Option Addr} {m c : Nat} {xs : List Int} (h : Pr w0 w F n R G a) (hn : n < 60) (hO : ∀ w', Below w0.heap.size w0 w' → OpOk w' ⟨k, wh, t, b, p, m, c⟩ xs) :
    Calls Try.prog 30 #[qp F.Q, qp R, .agg (opcells ⟨k, wh, t, b, p, m, c⟩)] w fun e w' => e = .returned (.bool true) ∧ ∃ F' G' a', Tn w w' F R G a.bl (n + 1) F' G' a' := by
  have HU : Hid (U64 t) := (hO w h.below).u
  have HO : Hid (∀ w', Below w0.heap.size w0 w' → OpOk w' ⟨k, wh, t, b, p, m, c⟩ xs) := hO
  have C0 : Hid ((w.alloc (.cells #[.int .i64 k, .int .i64 wh, .int .u64 t, .int .i64 b, .slice p m c] 68)).heap[w.heap.size]? = some (.cells #[.int .i64 k, .int .i64 wh, .int .u64 t, .int .i64 b, .slice p m c] 68 (0, 0))) := heap_alloc_new w _
  have BA : Hid (Below w.heap.size w (w.alloc (.cells #[.int .i64 k, .int .i64 wh, .int .u64 t, .int .i64 b, .slice p m c] 68))) := below_alloc w _
  have H : Hid (Pr w0 (w.alloc (.cells #[.int .i64 k, .int .i64 wh, .int .u64 t, .int .i64 b, .slice p m c] 68)) F n R G a) := h.later BA.out
  have HNB : Hid (¬ F.has a.bl w.heap.size ∧ w.heap.size ≠ R) := ⟨fun e => by have := h.pl.lt e; omega, by have := h.R_lt; omega⟩
  clear h hO
  go_enter Try.func30, Try.ntmps30
  go_upto_region 1 with fail
  generalize hwa : w.alloc (.cells #[.int .i64 k, .int .i64 wh, .int .u64 t, .int .i64 b, .slice p m c] 68) = wa at *
  clear hwa
  obtain ⟨bo, hbo⟩ : ∃ bo, bo = w.heap.size := ⟨_, rfl⟩
  rw [← hbo] at C0 HNB ⊢
  clear hbo
  have c0 : wa.cell? ⟨bo, 0, none⟩ = some (.int .i64 k) := cell_of_row _ bo 0 _ 68 (0, 0) C0.out
  have c1 : wa.cell? ⟨bo, 1, none⟩ = some (.int .i64 wh) := cell_of_row _ bo 1 _ 68 (0, 0) C0.out
  have c2 : wa.cell? ⟨bo, 2, none⟩ = some (.int .u64 t) := cell_of_row _ bo 2 _ 68 (0, 0) C0.out
  have c3 : wa.cell? ⟨bo, 3, none⟩ = some (.int .i64 b) := cell_of_row _ bo 3 _ 68 (0, 0) C0.out
  have c4 : wa.cell? ⟨bo, 4, none⟩ = some (.slice p m c) := cell_of_row _ bo 4 _ 68 (0, 0) C0.out
  by_cases k1 : k = 1
  · subst k1
    go_wp2_with fail
    refine (lays_at H.out hn HO.out).mono ?_
    rintro e w5 ⟨rfl, F', G', ht⟩
    have HT : Hid (∃ F' G' a', Tn w w5 F R G a.bl (n + 1) F' G' a') := ⟨F', G', _, ht.ahead BA.out⟩
    clear ht c0 c1 c2 c3 c4
    go_wp2
    go_ret
    exact ⟨rfl, HT.out⟩
  have k1' : (k == 1) = false := by rw [beq_eq_false_iff_ne]; exact k1
  by_cases k3 : k = 3
  · subst k3
    go_wp2_with fail
    refine (take_at H.out.pl (by omega) HU.out).mono ?_
    rintro e w3 ⟨rfl, F', hp, hk, hg⟩
    have P3 : Hid (PL w3 F' (n + 1) (takS a t) ∧ Kept (F.has a.bl) wa w3 ∧ Grw wa w3 a.bl F F') := ⟨hp, hk, hg⟩
    clear hp hk hg c0 c1 c2 c3 c4
    have C3 : Hid (w3.heap[bo]? = some (.cells #[.int .i64 3, .int .i64 wh, .int .u64 t, .int .i64 b, .slice p m c] 68 (0, 0))) := (P3.out.2.1.block bo (Array.getElem?_eq_some_iff.1 C0.out).1 HNB.out.1).trans C0.out
    have c2 : w3.cell? ⟨bo, 2, none⟩ = some (.int .u64 t) := cell_of_row _ bo 2 _ 68 (0, 0) C3.out
    have HRL : Hid (∃ v es, RL w3 G R v a es) := H.out.beside (Below.refl _ _) P3.out.2.1
    go_wp2_with fail
    obtain ⟨v3, es3, hr3⟩ := HRL.out
    refine (rtake_at hr3 H.out.gR H.out.pl.ok (by have := H.out.pl.len; omega) t).mono ?_
    rintro e w4 ⟨rfl, hra⟩
    have HT : Hid (∃ F' G' a', Tn w w4 F R G a.bl (n + 1) F' G' a') := ⟨F', Gp w3 w4 G, _, (H.out.turned (Below.refl _ _) P3.out.1 P3.out.2.1 P3.out.2.2 rfl hra).ahead BA.out⟩
    clear hra hr3 HRL c2
    obtain ⟨z0, z1⟩ := bne_i (takN a.L t)
    obtain ⟨z2, z3⟩ := bne_i (takE a.L t)
    go_wp2_with (go_at_call 13; refine (num_is _ _).mono ?_; rintro e w' ⟨rfl, rfl⟩)
    go_ret
    exact ⟨rfl, HT.out⟩
  have k3' : (k == 3) = false := by rw [beq_eq_false_iff_ne]; exact k3
  by_cases k4 : k = 4
  · subst k4
    go_wp2_with fail
    refine (dropL_at H.out.pl (by omega) HU.out).mono ?_
    rintro e w3 ⟨rfl, F', hp, hk, hg⟩
    have P3 : Hid (PL w3 F' (n + 1) (drpS a t) ∧ Kept (F.has a.bl) wa w3 ∧ Grw wa w3 a.bl F F') := ⟨hp.more, hk, hg⟩
    clear hp hk hg c0 c1 c2 c3 c4
    have C3 : Hid (w3.heap[bo]? = some (.cells #[.int .i64 4, .int .i64 wh, .int .u64 t, .int .i64 b, .slice p m c] 68 (0, 0))) := (P3.out.2.1.block bo (Array.getElem?_eq_some_iff.1 C0.out).1 HNB.out.1).trans C0.out
    have c2 : w3.cell? ⟨bo, 2, none⟩ = some (.int .u64 t) := cell_of_row _ bo 2 _ 68 (0, 0) C3.out
    have HRL : Hid (∃ v es, RL w3 G R v a es) := H.out.beside (Below.refl _ _) P3.out.2.1
    go_wp2_with fail
    obtain ⟨v3, es3, hr3⟩ := HRL.out
    refine (rdrop_at hr3 H.out.gR H.out.pl.ok (by have := H.out.pl.len; omega) t).mono ?_
    rintro e w4 ⟨rfl, hra⟩
    have HT : Hid (∃ F' G' a', Tn w w4 F R G a.bl (n + 1) F' G' a') := ⟨F', Gp w3 w4 G, _, (H.out.turned (Below.refl _ _) P3.out.1 P3.out.2.1 P3.out.2.2 rfl hra).ahead BA.out⟩
    clear hra hr3 HRL c2
    obtain ⟨z0, z1⟩ := bne_i (drpN a.L t)
    obtain ⟨z2, z3⟩ := bne_i (drpE a.L t)
    go_wp2_with (go_at_call 13; refine (num_is _ _).mono ?_; rintro e w' ⟨rfl, rfl⟩)
    go_ret
    exact ⟨rfl, HT.out⟩
  have k4' : (k == 4) = false := by rw [beq_eq_false_iff_ne]; exact k4
  by_cases k6 : k = 6
  · subst k6
    go_wp2_with fail
    obtain ⟨v3, es3, hr3⟩ := H.out.rl
    refine (all_at H.out.pl hr3 (by omega) b).mono ?_
    rintro e w4 ⟨rfl, hb⟩
    have HT : Hid (∃ F' G' a', Tn w w4 F R G a.bl (n + 1) F' G' a') := ⟨F, G, a, (H.out.same hb (Nat.le_succ _)).ahead BA.out⟩
    clear hb hr3 c0 c1 c2 c3 c4
    go_wp2
    go_ret
    exact ⟨rfl, HT.out⟩
  have k6' : (k == 6) = false := by rw [beq_eq_false_iff_ne]; exact k6
  go_wp2_with fail
  obtain ⟨v3, es3, hr3⟩ := H.out.rl
  refine (told_at H.out.pl hr3 (by omega) t HU.out b).mono ?_
  rintro e w4 ⟨rfl, hb⟩
  have HT : Hid (∃ F' G' a', Tn w w4 F R G a.bl (n + 1) F' G' a') := ⟨F, G, a, (H.out.same hb (Nat.le_succ _)).ahead BA.out⟩
  clear hb hr3 c0 c1 c2 c3 c4
  go_wp2
  go_ret
  exact ⟨rfl, HT.out⟩
set_option maxHeartbeats 8000000 in
set_option maxRecDepth 100000 in
theorem whole_at (h : Pr w0 w F n R G a) (hn : n ≤ 60) : Calls Try.prog 31 #[qp F.Q, qp R] w fun e w' => e = .returned (.bool true) ∧ Below w.heap.size w w' := by
  have hl : a.L.length ≤ 60 := Nat.le_trans h.pl.len hn
  have hbl := h.pl.ok.b64
  have HP : Hid (PL w F n a) := h.pl
  obtain ⟨v, es, hr⟩ := h.rl
  obtain ⟨p, c, rfl, hc, hp⟩ := hr.shape
  have HR : Hid (RL w G R (.slice p a.L.length c) a es) := hr
  clear h hr
  go_enter Try.func31, Try.ntmps31
  go_wp2_with fail
  go_loopw [5] (fun i wr => ∃ j : Nat, j ≤ a.bl + 2 ∧ i = .int .i64 ((j : Int) - 1) ∧ Hid (Below w.heap.size w wr)) (fun i _ => (a.bl + 1 - intOf i).toNat)
  case atStart => exact ⟨0, Nat.zero_le _, rfl, Below.refl _ _⟩
  case round =>
    obtain ⟨j, hj, rfl, HB⟩ := hrel
    have c0 : wr.cell? ⟨R, 0, none⟩ = some (.int .i64 a.bl) := (HR.out.later HB.out).c 0
    by_cases hlt : j ≤ a.bl + 1
    · have i1 : (j : Int) - 1 ≤ (a.bl : Int) := by omega
      have i2 : IntKind.i64.wrap ((j : Int) - 1 + 1) = (j : Int) := by rw [IntKind.wrap_i64]; omega
      have i3 : IntKind.u64.wrap (j : Int) = (j : Int) := by rw [IntKind.wrap_u64]; omega
      go_wp2_with fail
      refine (told_at (HP.out.later HB.out) (HR.out.later HB.out) hn (j : Int) (u64_small (by omega) (by omega)) ((j : Int) - 1)).mono ?_
      rintro e w2 ⟨rfl, hb⟩
      have HB2 : Hid (Below w.heap.size w w2) := below_then HB.out hb
      clear hb HB c0
      go_wp2_with fail
      go_roundw
      case rel => exact ⟨j + 1, by omega, by congr 1; omega, HB2⟩
      case measure => simp [intOf]; omega
    · have i1 : ¬ (j : Int) - 1 ≤ (a.bl : Int) := by omega
      have c2 : wr.cell? ⟨R, 2, none⟩ = some (.slice p a.L.length c) := (HR.out.later HB.out).c 2
      go_wp2_with fail
      clear c2 c0
      obtain ⟨wB, hwB⟩ : ∃ x, x = wr := ⟨_, rfl⟩
      subst hwB
      go_loopw [28] (fun i wr => ∃ j : Nat, j ≤ a.L.length ∧ i = .int .i64 j ∧ Hid (Below w.heap.size w wr)) (fun i _ => a.L.length - (intOf i).toNat)
      case atStart => exact ⟨0, Nat.zero_le _, rfl, HB⟩
      case round =>
        clear HB
        obtain ⟨k, hk, rfl, HB⟩ := hrel
        by_cases hlk : k < a.L.length
        · have k1 : (k : Int) < (a.L.length : Int) := by omega
          obtain ⟨g, rfl⟩ := hp (by omega)
          obtain ⟨c2, p', c', hx⟩ := HR.out.see HB.out hlk
          have x0 := hx.t
          have HU : Hid (U64 a.L[k].t) := by
            have ok := HP.out.ok
            have h1 := ok.pos _ (List.getElem_mem hlk)
            have h2 := ok.top _ (List.getElem_mem hlk)
            have h3 := ok.lastU
            exact u64_small (by omega) (by omega)
          clear hx
          generalize a.L[k].t = xt at *
          go_wp2_with fail
          refine (told_at (HP.out.later HB.out) (HR.out.later HB.out) hn xt HU.out (k : Int)).mono ?_
          rintro e w2 ⟨rfl, hb⟩
          have HB2 : Hid (Below w.heap.size w w2) := below_then HB.out hb
          clear hb HB c2 x0
          go_wp2_with fail
          go_roundw
          case rel => exact ⟨k + 1, by omega, by go_num, HB2⟩
          case measure => simp [intOf]; omega
        · have k1 : ¬ (k : Int) < (a.L.length : Int) := by omega
          go_wp2_with fail
          refine (all_at (HP.out.later HB.out) (HR.out.later HB.out) hn 2).mono ?_
          rintro e w2 ⟨rfl, hb⟩
          have HB2 : Hid (Below w.heap.size w w2) := below_then HB.out hb
          clear hb HB
          go_wp2
          go_ret
          exact ⟨rfl, HB2.out⟩
end
end Go.Proofs.Ytkffmglcllhbmaa
