/-
  Layer 14: locks beside the document's; lays.
-/
import Derived.Test.YtkffmglcllhbmaaRi
import Derived.Test.YtkffmglcllhbmaaRj
namespace Go.Proofs.Ytkffmglcllhbmaa
open Go.RowKit

theorem or_r {p q r : Prop} (h : p ∨ q) (f : q → r) : p ∨ r := h.elim .inl fun x => .inr (f x)
/-- locks, and the document's beside them, in memory above w0's -/
structure Pr (w0 w : World) (F : Ft) (n R : Nat) (G : Nat → Prop) (a : Lk) : Prop where
  pl : PL w F n a
  rl : ∃ v es, RL w G R v a es
  fl : ∀ g, F.G g → g < w.heap.size
  gl : ∀ g, G g → g < w.heap.size
  gf : ∀ g, G g → ¬ F.has a.bl g
  gR : ¬ G R
  lo : ∀ b, F.has a.bl b → w0.heap.size ≤ b
  rlo : w0.heap.size ≤ R
  below : Below w0.heap.size w0 w
/-- what a step makes of them -/
structure Tn (w w' : World) (F : Ft) (R : Nat) (G : Nat → Prop) (N n' : Nat) (F' : Ft) (G' : Nat → Prop) (a' : Lk) : Prop where
  pl : PL w' F' n' a'
  rl : ∃ v es, RL w' G' R v a' es
  kept : Kept (fun b => F.has N b ∨ b = R) w w'
  grw : Grw w w' N F F'
  g1 : ∀ g, G g → G' g
  g2 : ∀ g, G' g → G g ∨ (w.heap.size ≤ g ∧ g < w'.heap.size)
  gf : ∀ g, G' g → ¬ F'.has N g
  bl : a'.bl = N
section
variable {w0 w w' w2 w3 w4 : World} {G : Nat → Prop} {R n : Nat} {v : Value} {a a' : Lk} {es : List Er} {F F' : Ft}
theorem no103 : ¬ kinds 103 := by intro h; rcases h with e | e | e | e | e <;> cases e
theorem Pr.R_has (h : Pr w0 w F n R G a) : ¬ F.has a.bl R := fun e => by
  obtain ⟨v, es, hr⟩ := h.rl
  have := h.pl.kinds e
  rw [hr.kR] at this
  exact no103 this
theorem Pr.R_lt (h : Pr w0 w F n R G a) : R < w.heap.size := by
  obtain ⟨v, es, hr⟩ := h.rl
  exact hr.lt
theorem Pr.same (h : Pr w0 w F n R G a) (hb : Below w.heap.size w w') (hn : n ≤ n + 1) : Tn w w' F R G a.bl (n + 1) F G a := by
  obtain ⟨v, es, hr⟩ := h.rl
  exact ⟨(h.pl.later hb).mono hn, ⟨v, es, hr.later hb⟩, Kept.of_below _ hb, Grw.refl _ _ _ _, fun _ hg => hg, fun _ hg => .inl hg, h.gf, rfl⟩
/-- the document's locks behind a call at the locks -/
theorem Pr.beside (h : Pr w0 w F n R G a) (hb : Below w.heap.size w w2) (hk : Kept (F.has a.bl) w2 w3) : ∃ v es, RL w3 G R v a es := by
  obtain ⟨v, es, hr⟩ := h.rl
  exact ⟨v, es, (hr.later hb).far hk h.R_has fun g hg _ => h.gf g hg⟩
/-- both have turned, the locks first -/
theorem Pr.turned {n' : Nat} (h : Pr w0 w F n R G a) (hb : Below w.heap.size w w2) (hp : PL w3 F' n' a') (hk : Kept (F.has a.bl) w2 w3) (hg : Grw w2 w3 a.bl F F') (hbl : a'.bl = a.bl) (hr : RAf w3 w4 G R a') : Tn w w4 F R G a.bl n' F' (Gp w3 w4 G) a' := by
  have s1 := hb.size
  have s2 := hk.size
  have s3 := hr.kept.size
  have hR := h.R_lt
  have hin : ∀ b, F'.has a.bl b → b < w3.heap.size := fun b hb' => hp.lt (by rw [hbl]; exact hb')
  have hne : ∀ b, F'.has a.bl b → b ≠ R := fun b hb' e => by
    subst e
    rcases hg.has _ hb' with e2 | e2
    · exact h.R_has e2
    · omega
  have kR : kd w3 R = 103 := by
    obtain ⟨v, es, hr'⟩ := h.beside hb hk
    exact hr'.kR
  refine ⟨hp.far hr.kept (fun b hb' e => hne b (by rw [← hbl]; exact hb') e) (fun g _ h3 e => by rw [e, kR] at h3; cases h3), hr.rl, ?_, ⟨hg.q, fun b hb' => or_r (hg.has b hb') (fun e => by omega), fun b hb' => or_r (hg.g b hb') (fun e => ⟨by omega, by omega⟩)⟩, fun _ hg' => .inl hg', fun g hg' => or_r hg' (fun e => ⟨by omega, e.2⟩), fun g hg' e => ?_, hbl⟩
  · exact ((Kept.of_below (fun b => F.has a.bl b ∨ b = R) hb).trans hk (fun x _ e => .inl e)).trans hr.kept (fun x _ e => .inr e)
  · rcases hg' with h1 | h1
    · rcases hg.has g e with e2 | e2
      · exact h.gf g h1 e2
      · have := h.gl g h1; omega
    · have := hin g e; omega
/-- a block that was made since is written over -/
theorem Tn.over {n' g : Nat} {G' : Nat → Prop} (ht : Tn w w' F R G a.bl n' F' G' a') (h : Pr w0 w F n R G a) (hk : Kept (· = g) w' w4) (hg : w.heap.size ≤ g) (hF : ∀ b, F'.has a.bl b → b ≠ g) (hGG : ∀ b, F'.G b → b ≠ g) (hG : ∀ b, G' b → b ≠ g) : Tn w w4 F R G a.bl n' F' G' a' := by
  obtain ⟨v, es, hr⟩ := ht.rl
  have s1 := hk.size
  refine ⟨ht.pl.far hk (fun b hb e => hF b (by rw [← ht.bl]; exact hb) e) (fun b hb _ e => hGG b hb e), ⟨v, es, hr.far hk (fun e => ?_) (fun b hb _ e => hG b hb e)⟩, ht.kept.trans hk (fun x hx e => by omega), ⟨ht.grw.q, ht.grw.has, fun b hb => or_r (ht.grw.g b hb) (fun e => ⟨e.1, by omega⟩)⟩, ht.g1, fun b hb => or_r (ht.g2 b hb) (fun e => ⟨e.1, by omega⟩), ht.gf, ht.bl⟩
  have := h.R_lt
  omega
end
/-- a step, and its set -/
structure OpV where
  kd : Int
  wh : Int
  t : Int
  b : Int
  p : Option Addr
  m : Nat
  c : Nat
abbrev opcells (o : OpV) : Array Value := #[.int .i64 o.kd, .int .i64 o.wh, .int .u64 o.t, .int .i64 o.b, .slice o.p o.m o.c]
structure OpOk (w : World) (o : OpV) (xs : List Int) : Prop where
  i : B.IIn w o.p o.m xs
  mc : o.m ≤ o.c
  nl : o.p = none → o.c = 0
  u : U64 o.t
  mm : o.m ≤ 17592186044000
theorem OpOk.later {w w' : World} {o : OpV} {xs : List Int} (h : OpOk w o xs) (hb : Below w.heap.size w w') : OpOk w' o xs := ⟨h.i.later hb, h.mc, h.nl, h.u, h.mm⟩
section
variable {w0 w w' w2 w3 w4 : World} {G : Nat → Prop} {R n : Nat} {v : Value} {a a' : Lk} {es : List Er} {F F' : Ft}
theorem pre_in {g n c : Nat} {ys zs : List Int} (h : w.ownsRow 0 3 1 (.slice (some ⟨g, 0, none⟩) n c) n (B.I64 ys ++ B.I64 zs)) : B.IIn w (some ⟨g, 0, none⟩) ys.length ys := by
  refine ⟨rfl, fun _ => ⟨g, 0, rfl, fun i hi => ?_⟩⟩
  have h1 := h.cells (g := g) rfl i (.int .i64 (ys.getD i 0)) (by rw [List.getElem?_append_left (by simpa using hi), List.getElem?_map]; simp [List.getD, List.getElem?_eq_getElem hi])
  rw [Go.WideShapes.add_plain] at h1
  exact h1
theorem mine_end {g m c : Nat} {ys : List Int} (hl : ys.length = m) (h : w.ownsRow 0 3 1 (.slice (some ⟨g, 0, none⟩) (m + 2) c) (m + 2) (B.I64 ys ++ [.int .i64 (-5), .int .i64 (-6)])) : w.cell? ⟨g, m, none⟩ = some (.int .i64 (-5)) ∧ w.cell? ⟨g, m + 1, none⟩ = some (.int .i64 (-6)) := by
  have h1 := h.cells (g := g) rfl m (.int .i64 (-5)) (by simp [B.I64, ← hl])
  have h2 := h.cells (g := g) rfl (m + 1) (.int .i64 (-6)) (by simp [B.I64, ← hl])
  rw [Go.WideShapes.add_plain, Nat.zero_add] at h1 h2
  exact ⟨h1, h2⟩
theorem grown_fr {we wa w1 : World} {v1 : Value} {m : Nat} {xs : List Value} {x : Value} (hx : ∀ g, x.ownBlock = some g → we.heap.size ≤ g) (hb : Below we.heap.size we wa) (ho : w1.ownsRow we.heap.size 3 1 v1 m xs) (hg : wa.grownBy w1 x.ownBlock) : O.FR we w1 0 3 1 v1 m xs :=
  ⟨B.own_mono ho (Nat.zero_le _), (O.kept_grown hg).into hb (fun b hb e => by have := hx b e; omega) (Nat.le_refl _), fun g hg => (ho.lt g hg).1⟩
theorem own_app {we wa w1 : World} {v : Value} {m : Nat} {xs : List Value} (hb : Below we.heap.size we wa) (hx : wa.ownsRow we.heap.size 3 1 v m xs) (hg : wa.grownBy w1 v.ownBlock) : Below we.heap.size we w1 := (O.kept_grown hg).into hb (fun b hb e => by have := (hx.lt b e).1; omega) (Nat.le_refl _)
set_option maxHeartbeats 8000000 in
set_option maxRecDepth 100000 in
theorem lays_at {k wh t b : Int} {p : Option Addr} {m c : Nat} {xs : List Int} (h : Pr w0 w F n R G a) (hn : n < 60) (hO : ∀ w', Below w0.heap.size w0 w' → OpOk w' ⟨k, wh, t, b, p, m, c⟩ xs) :
    Calls Try.prog 48 #[qp F.Q, qp R, .agg (opcells ⟨k, wh, t, b, p, m, c⟩)] w fun e w' => e = .returned (.bool true) ∧ ∃ F' G', Tn w w' F R G a.bl (n + 1) F' G' (layS a t xs) := by
  obtain ⟨i0, hi, hz0, hz1, hz2⟩ := info_parts B.info3
  have H : Hid (Pr w0 w F n R G a) := h
  have HO : Hid (∀ w', Below w0.heap.size w0 w' → OpOk w' ⟨k, wh, t, b, p, m, c⟩ xs) := hO
  have hmm : m ≤ 17592186044000 := (hO w h.below).mm
  have hmc : m ≤ c := (hO w h.below).mc
  have hpc : p = none → c = 0 := (hO w h.below).nl
  have HL : Hid (xs.length = m) := (hO w h.below).i.len
  have hml : 17592186044100 ≤ maxLen := by decide
  clear h hO
  go_enter Try.func48, Try.ntmps48
  go_upto_region 1 with fail
  have C0 : Hid ((w.alloc (.cells #[.int .i64 k, .int .i64 wh, .int .u64 t, .int .i64 b, .slice p m c] 68)).heap[w.heap.size]? = some (.cells #[.int .i64 k, .int .i64 wh, .int .u64 t, .int .i64 b, .slice p m c] 68 (0, 0))) := heap_alloc_new w _
  have BA : Hid (Below w.heap.size w (w.alloc (.cells #[.int .i64 k, .int .i64 wh, .int .u64 t, .int .i64 b, .slice p m c] 68))) := below_alloc w _
  generalize w.alloc (.cells #[.int .i64 k, .int .i64 wh, .int .u64 t, .int .i64 b, .slice p m c] 68) = wa at *
  obtain ⟨bo, hbo⟩ : ∃ bo, bo = w.heap.size := ⟨_, rfl⟩
  have HBO : Hid (bo = w.heap.size) := hbo
  rw [← hbo] at C0 ⊢
  clear hbo
  have CO : Hid (∀ w', Below wa.heap.size wa w' → w'.heap[bo]? = some (.cells #[.int .i64 k, .int .i64 wh, .int .u64 t, .int .i64 b, .slice p m c] 68 (0, 0))) := fun w' hb => (hb.block bo (Array.getElem?_eq_some_iff.1 C0.out).1).trans C0.out
  have c4 : wa.cell? ⟨bo, 4, none⟩ = some (.slice p m c) := cell_of_row _ bo 4 _ 68 (0, 0) C0.out
  have d4 : (wa.alloc (.cells #[] 3)).cell? ⟨bo, 4, none⟩ = some (.slice p m c) := cell_of_row _ bo 4 _ 68 (0, 0) (CO.out _ (below_alloc wa _))
  have F0 : Hid ((wa.alloc (.cells #[] 3)).ownsRow wa.heap.size 3 1 (.slice (some ⟨wa.heap.size, 0, none⟩) 0 0) 0 []) := O.own_empty wa (Nat.le_refl _)
  have I1 : Hid (B.IIn (wa.alloc (.cells #[] 3)) p m xs) := (HO.out _ (below_then H.out.below (below_then BA.out (below_alloc wa _)))).i
  go_upto_region 2 with (at_builtin; first
    | (refine B.wpList_append_any _ rfl (.tmp 13) (.tmp 15) 37 rfl wa.heap.size 3 i0 (.int .i64 0) 8 Try.underlying37 hi hz0 hz1 hz2 rfl (.slice (some ⟨wa.heap.size, 0, none⟩) 0 0) 0 [] rfl F0.out p m c (B.I64 xs) rfl hpc hmc (by rw [B.I64_length]; exact HL.out) I1.out.newsAny (B.ones_i64 xs) (by omega) (by omega) (by simp) ?_; intro v1 w1 ho hg; have B1 : Hid (Below wa.heap.size wa w1) := own_app (below_alloc wa _) F0.out hg; have F1 : Hid (w1.ownsRow wa.heap.size 3 1 v1 m (B.I64 xs)) := (by rw [Nat.zero_add, List.nil_append] at ho; exact ho); clear ho hg; obtain ⟨p1, c1, e1⟩ := O.own_shape F1.out; subst e1)
    | (refine B.wpList_append_any _ rfl (.tmp 16) (.tmp 17) 37 rfl wa.heap.size 3 i0 (.int .i64 0) 8 Try.underlying37 hi hz0 hz1 hz2 rfl (.slice p1 m c1) m (B.I64 xs) rfl (O.own_later F1.out (below_alloc w1 _)) (some ⟨w1.heap.size, 0, none⟩) 2 2 [.int .i64 (-5), .int .i64 (-6)] rfl (fun e => by cases e) (by decide) rfl (fun ad e j u hj => by cases e; exact (own_two w1 3 (.int .i64 (-5)) (.int .i64 (-6))).cells (g := w1.heap.size) rfl j u hj) (by intro z hz; simp only [List.mem_cons, List.not_mem_nil, or_false] at hz; rcases hz with rfl | rfl <;> rfl) (by omega) (by omega) (Nat.le_trans B1.out.size (below_alloc w1 _).size) ?_; intro v2 w2 ho hg; have B2 : Hid (Below wa.heap.size wa w2) := own_app (below_then B1.out (below_alloc w1 _)) (O.own_later F1.out (below_alloc w1 _)) hg; have F2 : Hid (w2.ownsRow wa.heap.size 3 1 v2 (m + 2) (B.I64 xs ++ [.int .i64 (-5), .int .i64 (-6)])) := ho; clear ho hg; obtain ⟨p2, c2, e2, hc2, hg2⟩ := O.own_form F2.out; obtain ⟨g, rfl⟩ := hg2 (by omega); subst e2; clear hg2))
  have HG : Hid (wa.heap.size ≤ g ∧ g < w2.heap.size ∧ kd w2 g = 3) := by
    refine ⟨(F2.out.lt g rfl).1, (F2.out.lt g rfl).2, ?_⟩
    obtain ⟨cur, hc⟩ := O.own_typ F2.out (b := g) rfl
    exact kd_cells hc
  clear F0 F1 B1 I1 c4 d4
  have e2 : Hid (w2.heap[bo]? = some (.cells #[.int .i64 k, .int .i64 wh, .int .u64 t, .int .i64 b, .slice p m c] 68 (0, 0))) := CO.out _ B2.out
  have HW2 : Hid (Below w.heap.size w w2) := below_then BA.out B2.out
  have f2 : w2.cell? ⟨bo, 2, none⟩ = some (.int .u64 t) := cell_of_row _ bo 2 _ 68 (0, 0) e2.out
  have f4 : w2.cell? ⟨bo, 4, none⟩ = some (.slice p m c) := cell_of_row _ bo 4 _ 68 (0, 0) e2.out
  have i1 : (m : Int) ≤ (c2 : Int) := by omega
  have I2 : Hid (B.IIn w2 (some ⟨g, 0, none⟩) m xs) := by have h1 := pre_in (zs := [-5, -6]) (B.own_mono F2.out (Nat.zero_le _)); rw [HL.out] at h1; exact h1
  go_wp2_with fail
  refine (lay_at (H.out.pl.later HW2.out) (by omega) t (HO.out w H.out.below).u I2.out (by omega) (fun e => by cases e) (by omega) (fun ad e => by cases e; exact HG.out.2.2)).mono ?_
  rintro e w3 ⟨rfl, F', hp, hk, hg⟩
  have P3 : Hid (PL w3 F' (n + 1) (layS a t xs) ∧ Kept (F.has a.bl) w2 w3 ∧ Grw w2 w3 a.bl F F') := ⟨hp, hk, hg⟩
  clear hp hk hg f2 f4
  have HNB : Hid (∀ x, w.heap.size ≤ x → ¬ F.has a.bl x) := fun x hx e => by have := H.out.pl.lt e; omega
  have HWA : Hid (w.heap.size ≤ wa.heap.size) := BA.out.size
  have e3 : Hid (w3.heap[bo]? = some (.cells #[.int .i64 k, .int .i64 wh, .int .u64 t, .int .i64 b, .slice p m c] 68 (0, 0))) := (P3.out.2.1.block bo (Array.getElem?_eq_some_iff.1 e2.out).1 (HNB.out bo (by rw [HBO.out]; exact Nat.le_refl _))).trans e2.out
  have F3 : Hid (w3.ownsRow wa.heap.size 3 1 (.slice (some ⟨g, 0, none⟩) (m + 2) c2) (m + 2) (B.I64 xs ++ [.int .i64 (-5), .int .i64 (-6)])) := O.own_far F2.out P3.out.2.1 fun g' hg' => HNB.out g' (Nat.le_trans HWA.out (F2.out.lt g' hg').1)
  have HB3 : Hid (Below w0.heap.size w0 w3) := P3.out.2.1.into (below_then H.out.below HW2.out) (fun b hb e => by have := H.out.lo b e; omega) (Nat.le_refl _)
  have I3 : Hid (B.IIn w3 p m xs) := (HO.out _ HB3.out).i
  have HRL : Hid (∃ v es, RL w3 G R v a es) := H.out.beside HW2.out P3.out.2.1
  have HIR : Hid (∀ ad, p = some ad → 0 < m → ad.block ≠ R) := fun ad e h0 => by
    have h1 := (HO.out w0 (Below.refl _ _)).i
    dsimp only at h1
    rw [e] at h1
    have h2 := h1.lt h0
    have h3 := H.out.rlo
    omega
  clear e2 F2 I2
  have f2 : w3.cell? ⟨bo, 2, none⟩ = some (.int .u64 t) := cell_of_row _ bo 2 _ 68 (0, 0) e3.out
  have f4 : w3.cell? ⟨bo, 4, none⟩ = some (.slice p m c) := cell_of_row _ bo 4 _ 68 (0, 0) e3.out
  go_wp2_with fail
  obtain ⟨v3, es3, hr3⟩ := HRL.out
  refine (rlay_at hr3 H.out.gR H.out.pl.ok (by have := H.out.pl.len; omega) t I3.out HIR.out (by omega)).mono ?_
  rintro e w4 ⟨rfl, hra⟩
  have K4 : Hid (Kept (· = R) w3 w4) := hra.kept
  have T4 : Hid (Tn w w4 F R G a.bl (n + 1) F' (Gp w3 w4 G) (layS a t xs)) := H.out.turned HW2.out P3.out.1 P3.out.2.1 P3.out.2.2 (layS_bl _ _ _) hra
  clear hra hr3 HRL f2 f4
  have HgR : Hid (g ≠ R ∧ bo ≠ R) := by have h1 := H.out.R_lt; have h2 := HG.out.1; have h3 := HWA.out; have h4 := HBO.out; exact ⟨by omega, by omega⟩
  have e4 : Hid (w4.heap[bo]? = some (.cells #[.int .i64 k, .int .i64 wh, .int .u64 t, .int .i64 b, .slice p m c] 68 (0, 0))) := (K4.out.block bo (Array.getElem?_eq_some_iff.1 e3.out).1 HgR.out.2).trans e3.out
  have F4 : Hid (w4.ownsRow wa.heap.size 3 1 (.slice (some ⟨g, 0, none⟩) (m + 2) c2) (m + 2) (B.I64 xs ++ [.int .i64 (-5), .int .i64 (-6)])) := O.own_far F3.out K4.out fun g' hg' e => HgR.out.1 (by cases hg'; exact e)
  have I4 : Hid (B.IIn w4 p m xs ∧ B.IIn w4 (some ⟨g, 0, none⟩) m xs) := ⟨(HO.out _ (K4.out.into HB3.out (fun b hb e => by have := H.out.rlo; omega) (Nat.le_refl _))).i, by have h1 := pre_in (zs := [-5, -6]) (B.own_mono F4.out (Nat.zero_le _)); rw [HL.out] at h1; exact h1⟩
  have f4 : w4.cell? ⟨bo, 4, none⟩ = some (.slice p m c) := cell_of_row _ bo 4 _ 68 (0, 0) e4.out
  obtain ⟨z0, z1⟩ := bne_i (layE a t xs)
  have HNF : Hid (∀ x, F'.has a.bl x → x ≠ g) := fun x hx e => by
    subst e
    rcases P3.out.2.2.has _ hx with h1 | h1
    · exact HNB.out _ (Nat.le_trans HWA.out HG.out.1) h1
    · have := HG.out.2.1; omega
  have HNG : Hid (∀ x, F'.G x → x ≠ g) := fun x hx e => by
    subst e
    rcases P3.out.2.2.g _ hx with h1 | h1
    · have := H.out.fl _ h1; have := HG.out.1; have := HWA.out; omega
    · have := HG.out.2.1; omega
  have HNP : Hid (∀ x, Gp w3 w4 G x → x ≠ g) := fun x hx e => by
    subst e
    rcases hx with h1 | h1
    · have := H.out.gl _ h1; have := HG.out.1; have := HWA.out; omega
    · have := HG.out.2.1; have := P3.out.2.1.size; omega
  clear e3 F3 I3 P3
  go_wp2_with (go_at_call 13; refine (num_is _ _).mono ?_; rintro e w' ⟨rfl, rfl⟩)
  refine (sameI_eq _ _ _ _ _ _ xs w4 I4.out.2 I4.out.1 (by omega)).mono ?_
  rintro e w5 ⟨rfl, mq, hm⟩
  have B5 : Hid (Below w4.heap.size w4 w5) := by subst hm; exact below_drawn mq
  clear hm f4
  have F5 : Hid (w5.ownsRow wa.heap.size 3 1 (.slice (some ⟨g, 0, none⟩) (m + 2) c2) (m + 2) (B.I64 xs ++ [.int .i64 (-5), .int .i64 (-6)])) := O.own_later F4.out B5.out
  have f4 : w5.cell? ⟨bo, 4, none⟩ = some (.slice p m c) := cell_of_row _ bo 4 _ 68 (0, 0) ((B5.out.block bo (Array.getElem?_eq_some_iff.1 e4.out).1).trans e4.out)
  obtain ⟨y7, y8⟩ := mine_end HL.out (B.own_mono F5.out (Nat.zero_le _))
  have i8 : (m : Int) < (m : Int) + 2 := by omega
  have i9 : (m : Int) + 1 < (m : Int) + 2 := by omega
  have K5 : Hid (Kept (· = g) w4 w5) := Kept.of_below _ B5.out
  clear F4 e4 I4 B5
  go_wp2_with fail
  clear f4 y7 y8 i8 i9 z0 z1
  have HF0 : Hid (∃ ys, w5.ownsRow wa.heap.size 3 1 (.slice (some ⟨g, 0, none⟩) (m + 2) c2) (m + 2) ys) := ⟨_, F5.out⟩
  clear F5
  have m2 : m + 2 ≤ 17592186044002 := by omega
  have hmN : ((m : Int) + 2) = ((m + 2 : Nat) : Int) := by omega
  rw [hmN]
  clear hmN
  generalize hm2 : m + 2 = mm at *
  clear hm2
  go_loopw [66] (fun i wr => ∃ j : Nat, j ≤ mm ∧ i = .int .i64 j ∧ Hid (∃ ys, wr.ownsRow wa.heap.size 3 1 (.slice (some ⟨g, 0, none⟩) mm c2) mm ys) ∧ Hid (Kept (· = g) w4 wr)) (fun i _ => mm - (intOf i).toNat)
  case atStart => exact ⟨0, Nat.zero_le _, rfl, HF0, K5⟩
  case round =>
    clear HF0 K5
    obtain ⟨j, hj, rfl, HF, HK⟩ := hrel
    by_cases hlt : j < mm
    · have j1 : (j : Int) < (mm : Int) := by omega
      obtain ⟨ys, hy⟩ := HF.out
      obtain ⟨x, hx⟩ : ∃ x, ys[j]? = some x := ⟨_, List.getElem?_eq_getElem (by have := hy.1; omega)⟩
      have z1 := O.own_cell hy hx
      have z2 := O.own_free hy j
      have HN : Hid (∃ ys, (wr.setCell ⟨g, j, none⟩ (.int .i64 3)).ownsRow wa.heap.size 3 1 (.slice (some ⟨g, 0, none⟩) mm c2) mm ys) := ⟨_, O.own_set hy rfl j _⟩
      have KN : Hid (Kept (· = g) w4 (wr.setCell ⟨g, j, none⟩ (.int .i64 3))) := HK.out.trans (Kept.setCell g j _) (fun _ _ e => e)
      clear hy hx HF HK
      go_wp2_with fail
      go_roundw
      case rel => exact ⟨j + 1, by omega, by go_num, HN, KN⟩
      case measure => simp [intOf]; omega
    · have j1 : ¬ (j : Int) < (mm : Int) := by omega
      go_wp2
      go_ret
      exact ⟨rfl, F', Gp w3 w4 G, T4.out.over H.out HK.out (Nat.le_trans HWA.out HG.out.1) HNF.out HNG.out HNP.out⟩
end
end Go.Proofs.Ytkffmglcllhbmaa
