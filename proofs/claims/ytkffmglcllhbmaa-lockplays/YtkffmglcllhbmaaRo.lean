/-
  Layer 14: LockPlays.
-/
import Derived.Test.YtkffmglcllhbmaaRn
namespace Go.Proofs.Ytkffmglcllhbmaa
open Go.RowKit

section
variable {w0 w w' w1 w2 w3 w4 w5 w6 : World} {F : Nat → Ft} {R : Nat → Nat} {a : Nat → Lk} {n bl br j : Nat} {G G' : Nat → Prop}
structure ScIn (w : World) (p : Option Addr) (n : Nat) (f : Nat → OpV) (g : Nat → List Int) : Prop where
  cells : 0 < n → ∃ b o, p = some ⟨b, o, none⟩ ∧ ∀ i, i < n → w.rangeAt b (o + i * 5) (opcells (f i)).toList
  each : ∀ i, i < n → OpOk w (f i) (g i)
theorem ScIn.later {p : Option Addr} {n : Nat} {f : Nat → OpV} {g : Nat → List Int} (h : ScIn w p n f g) (hb : Below w.heap.size w w') : ScIn w' p n f g := by
  refine ⟨fun h0 => ?_, fun i hi => (h.each i hi).later hb⟩
  obtain ⟨b, o, rfl, hc⟩ := h.cells h0
  refine ⟨b, o, rfl, fun i hi j u hj => ?_⟩
  have := hc i hi j u hj
  exact (hb.cell (p := ⟨b, o + i * 5 + j, none⟩) (World.block_lt_of_cell? w _ this)).trans this
theorem S2.more (h : S2 w0 w F R a n G bl br) : S2 w0 w F R a (n + 1) G bl br := ⟨fun i hi => by
  have P := h.pr i hi
  exact ⟨P.pl.more, P.rl, P.fl, P.gl, P.gf, P.gR, P.lo, P.rlo, P.below⟩, h.sep, h.rs, h.ls, h.lr, h.gl, h.lo⟩
/-- the two locks on both sides are made -/
theorem begun {A : Lk} {F0 F1 : Ft} {R1 : Nat} {v' : Value} (hb1 : Below w.heap.size w w1) (hl : PL w2 F0 0 A) (hF : ∀ b, F0.has A.bl b → w1.heap.size ≤ b) (hG : ∀ g, ¬ F0.G g) (hb2 : Below w1.heap.size w1 w2) (hr : RL w3 (fun _ => False) w2.heap.size nils A []) (hb3 : Below w2.heap.size w2 w3) (hl' : PL w4 F1 0 A) (hF' : ∀ b, F1.has A.bl b → w3.heap.size ≤ b) (hG' : ∀ g, F1.G g → F0.G g) (hb4 : Below w3.heap.size w3 w4) (h5 : w5 = w4.alloc (.cells #[qp F0.Q, qp F1.Q] 24)) (hr' : RL w6 (Gp w5 w6 (fun _ => False)) R1 v' A []) (hR1 : w5.heap.size ≤ R1) (hb6 : Below w5.heap.size w5 w6) :
    ∃ F R a G, S2 w (w6.alloc (.cells #[qp w2.heap.size, qp R1] 61)) F R a 0 G w4.heap.size w6.heap.size := by
  have s1 := hb1.size
  have s2 := hb2.size
  have s3 := hb3.size
  have s4 := hb4.size
  have hb5 : Below w4.heap.size w4 w5 := by rw [h5]; exact below_alloc w4 _
  have s5 := hb5.size
  have s6 := hb6.size
  have e5 : w5.heap.size = w4.heap.size + 1 := by rw [h5, World.size_alloc]
  have hbA := below_alloc w6 (.cells #[qp w2.heap.size, qp R1] 61)
  have sA : (w6.alloc (.cells #[qp w2.heap.size, qp R1] 61)).heap.size = w6.heap.size + 1 := World.size_alloc _ _
  have b46 := below_then hb5 (below_then hb6 hbA)
  have b3A := below_then hb4 b46
  have b2A := below_then hb3 b3A
  have bA : Below w.heap.size w (w6.alloc (.cells #[qp w2.heap.size, qp R1] 61)) := below_then hb1 (below_then hb2 b2A)
  have hR1l : R1 < w6.heap.size := hr'.lt
  have hr0 := hr.lt
  refine ⟨putf (fun _ => F0) 1 F1, putf (fun _ => w2.heap.size) 1 R1, fun _ => A, fun g => Gp w5 w6 (fun _ => False) g ∧ g ≠ R1, ?_⟩
  have hgl : ∀ g, (Gp w5 w6 (fun _ => False) g ∧ g ≠ R1) → w5.heap.size ≤ g ∧ g < w6.heap.size := fun g hg => hg.1.elim (fun e => e.elim) id
  refine ⟨fun i hi => ?_, fun i x hi hx hne b h1 h2 => ?_, fun i x hi hx hne => ?_, ?_, heap_alloc_new w6 _, ⟨fun e => by have := hgl _ e; omega, fun e => by have := hgl _ e; omega⟩, ⟨by omega, by omega⟩⟩
  · rcases (show i = 0 ∨ i = 1 by omega) with rfl | rfl
    · refine ⟨hl.later b2A, ⟨nils, [], (hr.later b3A).wide fun _ e => e.elim⟩, fun g hg => (hG g hg).elim, fun g hg => by have := hgl g hg; omega, fun g hg e => ?_, fun e => ?_, fun b hb => by have := hF b hb; omega, ?_, bA⟩
      · have h1 := hl.lt e
        have h2 := hgl g hg
        omega
      · have h2 := hgl _ e
        have e2 : putf (fun _ => w2.heap.size) 1 R1 0 = w2.heap.size := rfl
        rw [e2] at h2
        omega
      · show w.heap.size ≤ w2.heap.size
        omega
    · refine ⟨hl'.later b46, ⟨v', [], hr'.trim.later hbA⟩, fun g hg => (hG g (hG' g hg)).elim, fun g hg => by have := hgl g hg; omega, fun g hg e => ?_, fun e => e.2 rfl, fun b hb => by have := hF' b hb; omega, ?_, bA⟩
      · have h1 := hl'.lt e
        have h2 := hgl g hg
        omega
      · show w.heap.size ≤ R1
        omega
  · have p0 : ∀ b, F0.has A.bl b → b < w2.heap.size := fun b hb => hl.lt hb
    rcases (show i = 0 ∨ i = 1 by omega) with rfl | rfl
    · obtain rfl : x = 1 := by omega
      have e1 := p0 b h1
      have e2 := hF' b h2
      omega
    · obtain rfl : x = 0 := by omega
      have e1 := hF' b h1
      have e2 := p0 b h2
      omega
  · rcases (show i = 0 ∨ i = 1 by omega) with rfl | rfl
    · obtain rfl : x = 1 := by omega
      show w2.heap.size ≠ R1
      omega
    · obtain rfl : x = 0 := by omega
      show R1 ≠ w2.heap.size
      omega
  · have e1 : w5.heap[w4.heap.size]? = some (.cells #[qp F0.Q, qp F1.Q] 24 (0, 0)) := by rw [h5]; exact heap_alloc_new w4 _
    exact ((below_then hb6 hbA).block _ (by omega)).trans e1
theorem S2.later (h : S2 w0 w F R a n G bl br) (hb : Below w.heap.size w w') : S2 w0 w' F R a n G bl br :=
  ⟨fun i hi => (h.pr i hi).later hb, h.sep, h.rs, (hb.block bl (Array.getElem?_eq_some_iff.1 h.ls).1).trans h.ls, (hb.block br (Array.getElem?_eq_some_iff.1 h.lr).1).trans h.lr, h.gl, h.lo⟩
theorem S2.free (h : S2 w0 w F R a n G bl br) (o : Nat) : w.frozen? ⟨bl, o, none⟩ = false ∧ w.frozen? ⟨br, o, none⟩ = false := ⟨by simp [World.frozen?, h.ls], by simp [World.frozen?, h.lr]⟩
/-- the document's locks while the row of the others is written -/
theorem S2.ref (h : S2 w0 w F R a n G bl br) (hj : j < 2) (hb : Below w.heap.size w w1) (hk : Kept (· = bl) w1 w2) : ∃ v es, RL w2 G (R j) v (a j) es := by
  obtain ⟨v, es, hr⟩ := (h.pr j hj).rl
  refine ⟨v, es, (hr.later hb).far hk (fun e => ?_) (fun g hg _ e => h.gl.1 (e ▸ hg))⟩
  have h1 := (h.pr j hj).kR
  rw [e, h.kl.1] at h1
  cases h1
def sl2 (x : Int) : Nat := ((x.tmod 2 + 2) % 2).toNat
theorem sl2_is (x : Int) : (x.tmod 2 + 2) % 2 = ((sl2 x : Nat) : Int) := by unfold sl2; omega
theorem sl2_lt (x : Int) : sl2 x < 2 := by unfold sl2; omega
theorem tmod2 (x : Int) : -2 < x.tmod 2 ∧ x.tmod 2 < 2 := by
  by_cases h : 0 ≤ x
  · rw [Int.tmod_eq_emod_of_nonneg h]; omega
  · rw [show x = -(-x) by omega, Int.neg_tmod, Int.tmod_eq_emod_of_nonneg (show 0 ≤ -x by omega)]; omega
/-- what is read while a step is played -/
structure Sn (w0 : World) (bl br j Q R bb oo : Nat) (kd wh t b : Int) (p : Option Addr) (m c : Nat) (w : World) : Prop where
  l : w.cell? ⟨bl, j, none⟩ = some (qp Q)
  r : w.cell? ⟨br, j, none⟩ = some (qp R)
  x0 : w.cell? ⟨bb, oo, none⟩ = some (.int .i64 kd)
  x1 : w.cell? ⟨bb, oo + 1, none⟩ = some (.int .i64 wh)
  x2 : w.cell? ⟨bb, oo + 2, none⟩ = some (.int .u64 t)
  x3 : w.cell? ⟨bb, oo + 3, none⟩ = some (.int .i64 b)
  x4 : w.cell? ⟨bb, oo + 4, none⟩ = some (.slice p m c)
set_option maxHeartbeats 8000000 in
set_option maxRecDepth 100000 in
theorem lockPlays_any (bn : Int) (p : Option Addr) (len cap : Nat) (f : Nat → OpV) (gg : Nat → List Int) (w : World) (hp : ScIn w p len f gg) (hn : len ≤ 9223372036854775807) :
    Calls Try.prog 7 #[.int .i64 bn, .slice p len cap] w fun e w' => e = .returned (.bool true) ∧ Below w.heap.size w w' := by
  have HP : Hid (ScIn w p len f gg) := hp
  clear hp
  go_enter Try.func7, Try.ntmps7
  go_wp2_with fail
  refine (awake_any w).mono ?_
  rintro e w1 ⟨rfl, hb⟩
  have B1 : Hid (Below w.heap.size w w1) := hb
  clear hb
  by_cases hM : bn < 1 ∨ 64 < bn
  · go_wp2_with fail
    refine (new_bad bn w1 hM).mono ?_
    rintro e w2 ⟨rfl, rfl⟩
    go_wp2_with fail
    refine (rnew_bad w1 hM).mono ?_
    rintro e w2 ⟨rfl, rfl⟩
    go_wp2_with (go_at_call 13; refine (num_is _ _).mono ?_; rintro e w' ⟨rfl, rfl⟩)
    go_ret
    exact ⟨rfl, B1.out⟩
  · obtain ⟨N, rfl⟩ : ∃ N : Nat, bn = (N : Int) := ⟨bn.toNat, by omega⟩
    go_wp2_with fail
    refine (new_ok N w1 (by omega) (by omega)).mono ?_
    rintro e w2 ⟨F0, rfl, h1, h2, h3, h4⟩
    have H2 : Hid (PL w2 F0 0 ⟨N, 0, []⟩ ∧ (∀ b, F0.has N b → w1.heap.size ≤ b) ∧ (∀ g, ¬ F0.G g) ∧ Below w1.heap.size w1 w2) := ⟨h1, h2, h3, h4⟩
    clear h1 h2 h3 h4
    go_wp2_with fail
    refine (rnew_ok w2 N (by omega) (by omega)).mono ?_
    rintro e w3 ⟨rfl, h1, h2⟩
    have H3 : Hid (RL w3 (fun _ => False) w2.heap.size nils ⟨N, 0, []⟩ [] ∧ Below w2.heap.size w2 w3) := ⟨h1, h2⟩
    clear h1 h2
    go_wp2_with (go_at_call 13; refine (num_is _ _).mono ?_; rintro e w' ⟨rfl, rfl⟩)
    refine (copyL_at (H2.out.1.later H3.out.2) (by omega)).mono ?_
    rintro e w4 ⟨F1, rfl, h1, h2, h3, h4⟩
    have H4 : Hid (PL w4 F1 0 ⟨N, 0, []⟩ ∧ (∀ b, F1.has N b → w3.heap.size ≤ b) ∧ (∀ g, F1.G g → F0.G g) ∧ Below w3.heap.size w3 w4) := ⟨h1, h2, h3, h4⟩
    clear h1 h2 h3 h4
    go_upto_region 10 with fail
    obtain ⟨w5, hw5⟩ : ∃ w5, w5 = w4.alloc (.cells #[qp F0.Q, qp F1.Q] 24) := ⟨_, rfl⟩
    have H5 : Hid (w5 = w4.alloc (.cells #[qp F0.Q, qp F1.Q] 24)) := hw5
    rw [← hw5]
    clear hw5
    have HB5 : Hid (Below w4.heap.size w4 w5) := by rw [H5.out]; exact below_alloc w4 _
    go_wp2_with fail
    refine (rcopy_at (H3.out.1.later (below_then H4.out.2.2.2 HB5.out)) (Nat.zero_le _)).mono ?_
    rintro e w6 ⟨R1, v6, rfl, h1, h2, h3⟩
    have SS : Hid (∃ F R a G, S2 w (w6.alloc (.cells #[qp w2.heap.size, qp R1] 61)) F R a 0 G w4.heap.size w6.heap.size) := begun B1.out H2.out.1 H2.out.2.1 H2.out.2.2.1 H2.out.2.2.2 H3.out.1 H3.out.2 H4.out.1 H4.out.2.1 H4.out.2.2.1 H4.out.2.2.2 H5.out h2 h1 h3
    clear h1 h2 h3 H2 H3 H4 H5 HB5 B1
    go_upto_region 11 with fail
    revert SS
    generalize w6.alloc (.cells #[qp w2.heap.size, qp R1] 61) = wS
    generalize w4.heap.size = bl
    generalize w6.heap.size = br
    intro SS
    go_wp2_with fail
    go_loopw [11] (fun i wr => ∃ k : Nat, k ≤ 40 ∧ k ≤ len ∧ i = .int .i64 k ∧ Hid (∃ F R a G, S2 w wr F R a k G bl br)) (fun i _ => 40 - (intOf i).toNat)
    case atStart => exact ⟨0, by omega, Nat.zero_le _, rfl, SS⟩
    case round =>
      clear SS
      obtain ⟨k, hk1, hk2, rfl, NK⟩ := hrel
      obtain ⟨F, R, a, G, sk⟩ := NK.out
      have SK : Hid (S2 w wr F R a k G bl br) := sk
      clear sk NK
      by_cases hk : k < len ∧ k < 40
      · obtain ⟨h1, h2⟩ := hk
        have i1 : (k : Int) < (len : Int) := by omega
        have i2 : (k : Int) < 40 := by omega
        have BW : Hid (Below w.heap.size w wr) := SK.out.below
        obtain ⟨bb, o, rfl, -⟩ := HP.out.cells (by omega)
        have HX0 : Hid (∀ w', Below w.heap.size w w' → w'.rangeAt bb (o + k * 5) (opcells (f k)).toList) := fun w' hb => by
          obtain ⟨b', o', e, hc⟩ := (HP.out.later hb).cells (by omega)
          cases e
          exact hc k h1
        have HOk0 : Hid (∀ w', Below w.heap.size w w' → OpOk w' (f k) (gg k)) := fun w' hb => (HP.out.later hb).each k h1
        revert HX0 HOk0
        generalize gg k = xs
        generalize f k = v
        obtain ⟨kd, wh, t, bk, p', m, c⟩ := v
        intro HX0 HOk
        have HX : Hid (∀ w', Below w.heap.size w w' → w'.cell? ⟨bb, o + k * 5, none⟩ = some (.int .i64 kd) ∧ w'.cell? ⟨bb, o + k * 5 + 1, none⟩ = some (.int .i64 wh) ∧ w'.cell? ⟨bb, o + k * 5 + 2, none⟩ = some (.int .u64 t) ∧ w'.cell? ⟨bb, o + k * 5 + 3, none⟩ = some (.int .i64 bk) ∧ w'.cell? ⟨bb, o + k * 5 + 4, none⟩ = some (.slice p' m c)) := fun w' hb => ⟨HX0.out w' hb 0 _ rfl, HX0.out w' hb 1 _ rfl, HX0.out w' hb 2 _ rfl, HX0.out w' hb 3 _ rfl, HX0.out w' hb 4 _ rfl⟩
        clear HX0
        obtain ⟨x0, x1, -, -, -⟩ := HX.out wr BW.out
        have t2 := tmod2 wh
        have e2 := sl2_is wh
        have hj := sl2_lt wh
        go_upto_region 15 with fail
        rw [e2]
        clear t2 e2 x1
        revert hj
        generalize sl2 wh = j
        intro hj
        obtain ⟨kk, hkk⟩ : ∃ kk, kk = 1 - j := ⟨_, rfl⟩
        have HK : Hid (kk = 1 - j) := hkk
        have hkw : IntKind.i64.wrap (1 - (j : Int)) = (kk : Int) := by rw [IntKind.wrap_i64]; omega
        have j2 : (j : Int) < 2 := by omega
        have kk2 : (kk : Int) < 2 := by omega
        have hkl : kk < 2 := by omega
        clear hkk
        obtain ⟨l1, r1⟩ := SK.out.cl hj
        obtain ⟨l2, r2⟩ := SK.out.cl hkl
        by_cases k7 : kd = 7
        · subst k7
          go_wp2_with fail
          refine (copyL_at (SK.out.pr j hj).pl (by omega)).mono ?_
          rintro e w7 ⟨F', rfl, h3, h4, h5, h6⟩
          have H7 : Hid (PL w7 F' k (a j) ∧ (∀ b, F'.has (a j).bl b → wr.heap.size ≤ b) ∧ (∀ g, F'.G g → (F j).G g) ∧ Below wr.heap.size wr w7) := ⟨h3, h4, h5, h6⟩
          clear h3 h4 h5 h6 l1 r1 l2 r2 x0
          have S7 : Hid (S2 w w7 F R a k G bl br) := SK.out.later H7.out.2.2.2
          have l2 := (S7.out.cl hkl).1
          have f2 := (S7.out.free kk).1
          go_upto_region 19 with fail
          obtain ⟨w8, hw8⟩ : ∃ w8, w8 = w7.setCell ⟨bl, kk, none⟩ (qp F'.Q) := ⟨_, rfl⟩
          have H8 : Hid (w8 = w7.setCell ⟨bl, kk, none⟩ (qp F'.Q)) := hw8
          rw [← hw8]
          clear hw8 l2 f2
          have K8 : Hid (Kept (· = bl) w7 w8) := by rw [H8.out]; exact Kept.setCell bl kk _
          have L8 : Hid (w8.heap[br]? = some (.cells #[qp (R 0), qp (R 1)] 61 (0, 0))) := (K8.out.block br (Array.getElem?_eq_some_iff.1 S7.out.lr).1 (fun e => ne_kd S7.out.kl.1 S7.out.kl.2 (by decide) e.symm)).trans S7.out.lr
          have r1 : w8.cell? ⟨br, j, none⟩ = some (qp (R j)) := by
            rw [cell_of_row _ br j _ 61 (0, 0) L8.out]
            rcases (show j = 0 ∨ j = 1 by omega) with e | e <;> subst e <;> rfl
          go_wp2_with fail
          obtain ⟨v8, es8, hr8⟩ := SK.out.ref hj H7.out.2.2.2 K8.out
          refine (rcopy_at hr8 (by have := (SK.out.pr j hj).pl.len; omega)).mono ?_
          rintro e w9 ⟨R', v9, rfl, h3, h4, h5⟩
          have N9 : Hid (∃ F R a G, S2 w (w9.setCell ⟨br, kk, none⟩ (qp R')) F R a (k + 1) G bl br) := ⟨_, _, _, _, (SK.out.copied hj HK.out H7.out.1 H7.out.2.1 H7.out.2.2.1 H7.out.2.2.2 H8.out h4 h3 h5).more⟩
          have L9 : Hid (w9.heap[br]? = some (.cells #[qp (R 0), qp (R 1)] 61 (0, 0))) := (h5.block br (Array.getElem?_eq_some_iff.1 L8.out).1).trans L8.out
          have f9 : w9.frozen? ⟨br, kk, none⟩ = false := by simp [World.frozen?, L9.out]
          have r9 : w9.cell? ⟨br, kk, none⟩ = some (qp (R kk)) := by
            rw [cell_of_row _ br kk _ 61 (0, 0) L9.out]
            rcases (show kk = 0 ∨ kk = 1 by omega) with e | e <;> subst e <;> rfl
          clear h3 h4 h5 hr8 r1 L8 L9
          go_wp2_with fail
          go_roundw
          case rel => exact ⟨k + 1, by omega, by omega, by go_num, N9⟩
          case measure => simp [intOf]; omega
        · have k7' : (kd == 7) = false := by rw [beq_eq_false_iff_ne]; exact k7
          go_wp2_with fail
          have HS0 : Hid (Sn w bl br j (F j).Q (R j) bb (o + k * 5) kd wh t bk p' m c wr.drew) := by
            obtain ⟨y0, y1, y2, y3, y4⟩ := HX.out wr BW.out
            exact ⟨l1, r1, y0, y1, y2, y3, y4⟩
          have SD : Hid (S2 w wr.drew F R a k G bl br) := SK.out.later (below_drawn 1)
          clear l1 r1 l2 r2 x0 SK
          refine wp_region_noPanic ?_
          refine wp_region_held_drew (S := Sn w bl br j (F j).Q (R j) bb (o + k * 5) kd wh t bk p' m c) (by kernel_rfl) HS0.out (fun hHeld => ?_)
          revert SD hHeld
          clear HS0
          generalize wr.drew = we
          intro SK hHeld
          refine wpAnyH_take (i := 0) (v := ?va1) (by simp; rfl) (by kernel_rfl) (by kernel_rfl) (by kernel_rfl) (fun _ _ _ h => h) (Or.inl ⟨by rfl, ?ya1⟩) hHeld ?ra1
          case ya1 => intro w hSw; clear hSw; go_simp; with_reducible rfl
          simp only [Act.put, List.setIfInBounds_toArray, List.set_cons_zero, List.set_cons_succ]
          refine wpAnyH_take (i := 1) (v := ?va2) (by simp; rfl) (by kernel_rfl) (by kernel_rfl) (by kernel_rfl) (fun _ _ _ h => h) (Or.inl ⟨by rfl, ?ya2⟩) hHeld ?ra2
          case ya2 => intro w hSw; clear hSw; go_simp; with_reducible rfl
          simp only [Act.put, List.setIfInBounds_toArray, List.set_cons_zero, List.set_cons_succ]
          refine wpAnyH_take (i := 2) (v := ?va3) (by simp; rfl) (by kernel_rfl) (by kernel_rfl) (by kernel_rfl) (fun _ _ _ h => h) (Or.inl ⟨by rfl, ?ya3⟩) hHeld ?ra3
          case ya3 => intro w hSw; clear hSw; go_simp; with_reducible rfl
          simp only [Act.put, List.setIfInBounds_toArray, List.set_cons_zero, List.set_cons_succ]
          refine wpAnyH_take (i := 3) (v := ?va4) (by simp; rfl) (by kernel_rfl) (by kernel_rfl) (by kernel_rfl) (fun _ _ _ h => h) (Or.inl ⟨by rfl, ?ya4⟩) hHeld ?ra4
          case ya4 => intro w hSw; have z := hSw.l; clear hSw; go_simp; with_reducible rfl
          simp only [Act.put, List.setIfInBounds_toArray, List.set_cons_zero, List.set_cons_succ]
          refine wpAnyH_take (i := 4) (v := ?va5) (by simp; rfl) (by kernel_rfl) (by kernel_rfl) (by kernel_rfl) (fun _ _ _ h => h) (Or.inl ⟨by rfl, ?ya5⟩) hHeld ?ra5
          case ya5 => intro w hSw; clear hSw; go_simp; with_reducible rfl
          simp only [Act.put, List.setIfInBounds_toArray, List.set_cons_zero, List.set_cons_succ]
          refine wpAnyH_take (i := 5) (v := ?va6) (by simp; rfl) (by kernel_rfl) (by kernel_rfl) (by kernel_rfl) (fun _ _ _ h => h) (Or.inl ⟨by rfl, ?ya6⟩) hHeld ?ra6
          case ya6 => intro w hSw; clear hSw; go_simp; with_reducible rfl
          simp only [Act.put, List.setIfInBounds_toArray, List.set_cons_zero, List.set_cons_succ]
          refine wpAnyH_take (i := 6) (v := ?va7) (by simp; rfl) (by kernel_rfl) (by kernel_rfl) (by kernel_rfl) (fun _ _ _ h => h) (Or.inl ⟨by rfl, ?ya7⟩) hHeld ?ra7
          case ya7 => intro w hSw; clear hSw; go_simp; with_reducible rfl
          simp only [Act.put, List.setIfInBounds_toArray, List.set_cons_zero, List.set_cons_succ]
          refine wpAnyH_take (i := 7) (v := ?va8) (by simp; rfl) (by kernel_rfl) (by kernel_rfl) (by kernel_rfl) (fun _ _ _ h => h) (Or.inl ⟨by rfl, ?ya8⟩) hHeld ?ra8
          case ya8 => intro w hSw; have z := hSw.r; clear hSw; go_simp; with_reducible rfl
          simp only [Act.put, List.setIfInBounds_toArray, List.set_cons_zero, List.set_cons_succ]
          refine wpAnyH_take (i := 8) (v := ?va9) (by simp; rfl) (by kernel_rfl) (by kernel_rfl) (by kernel_rfl) (fun _ _ _ h => h) (Or.inl ⟨by rfl, ?ya9⟩) hHeld ?ra9
          case ya9 => intro w hSw; clear hSw; go_simp; with_reducible rfl
          simp only [Act.put, List.setIfInBounds_toArray, List.set_cons_zero, List.set_cons_succ]
          refine wpAnyH_take (i := 9) (v := ?va10) (by simp; rfl) (by kernel_rfl) (by kernel_rfl) (by kernel_rfl) (fun _ _ _ h => h) (Or.inl ⟨by rfl, ?ya10⟩) hHeld ?ra10
          case ya10 => intro w hSw; clear hSw; go_simp; with_reducible rfl
          simp only [Act.put, List.setIfInBounds_toArray, List.set_cons_zero, List.set_cons_succ]
          refine wpAnyH_take (i := 10) (v := ?va11) (by simp; rfl) (by kernel_rfl) (by kernel_rfl) (by kernel_rfl) (fun _ _ _ h => h) (Or.inl ⟨by rfl, ?ya11⟩) hHeld ?ra11
          case ya11 => intro w hSw; clear hSw; go_simp; with_reducible rfl
          simp only [Act.put, List.setIfInBounds_toArray, List.set_cons_zero, List.set_cons_succ]
          refine wpAnyH_take (i := 11) (v := ?va12) (by simp; rfl) (by kernel_rfl) (by kernel_rfl) (by kernel_rfl) (fun _ _ _ h => h) (Or.inl ⟨by rfl, ?ya12⟩) hHeld ?ra12
          case ya12 => intro w hSw; have z0 := hSw.x0; have z1 := hSw.x1; have z2 := hSw.x2; have z3 := hSw.x3; have z4 := hSw.x4; clear hSw; go_simp; with_reducible rfl
          simp only [Act.put, List.setIfInBounds_toArray, List.set_cons_zero, List.set_cons_succ]
          refine wpAnyH_ready (rs := [12]) (by kernel_rfl) (by simp) ?_
          refine AllReadyH.cons (by simp; rfl) (fun Kc hKc => ?_) AllReadyH.nil
          go_simp
          refine (plays_at (SK.out.pr j hj) (by omega) HOk.out).mono ?_
          rintro e w7 ⟨rfl, F', G', a', ht⟩
          have N7 : Hid (S2 w w7 (putf F j F') R (putf a j a') (k + 1) G' bl br) := SK.out.turn hj ht
          have HS7 : Hid (Sn w bl br j (F j).Q (R j) bb (o + k * 5) kd wh t bk p' m c w7) := by
            have c1 := N7.out.cl hj
            rw [putf_same, ht.grw.q] at c1
            obtain ⟨x0, x1, x2, x3, x4⟩ := HX.out w7 N7.out.below
            exact ⟨c1.1, c1.2, x0, x1, x2, x3, x4⟩
          clear ht
          refine hKc.out _ _ HS7.out (fun hHeld => ?_)
          clear hKc Kc
          refine wpAnyH_ready (rs := [13]) (by kernel_rfl) (by simp) ?_
          refine AllReadyH.cons (by simp; rfl) (fun Kc hKc => ?_) AllReadyH.nil
          go_simp
          refine hKc.out _ _ HS7.out (fun hHeld => ?_)
          clear hKc Kc
          clear hHeld
          refine wpAnyH_done (by kernel_rfl) (NoPanic.normal ?_) _
          have NN : Hid (∃ F R a G, S2 w w7 F R a (k + 1) G bl br) := ⟨_, _, _, _, N7.out⟩
          clear N7 HS7
          go_wp2_with fail
          go_roundw
          case rel => exact ⟨k + 1, by omega, by omega, by go_num, NN⟩
          case measure => simp [intOf]; omega
      · have HL0 : Hid (∀ w', Bw wr.drew w' → w'.cell? ⟨bl, 0, none⟩ = some (qp (F 0).Q) ∧ w'.cell? ⟨bl, 1, none⟩ = some (qp (F 1).Q) ∧ w'.cell? ⟨br, 0, none⟩ = some (qp (R 0)) ∧ w'.cell? ⟨br, 1, none⟩ = some (qp (R 1))) := fun w' hb => by
          have h1 := SK.out.later (below_then (below_drawn 1) hb)
          exact ⟨(h1.cl (j := 0) (by omega)).1, (h1.cl (j := 1) (by omega)).1, (h1.cl (j := 0) (by omega)).2, (h1.cl (j := 1) (by omega)).2⟩
        have SD : Hid (S2 w wr.drew F R a k G bl br) := SK.out.later (below_drawn 1)
        clear SK
        by_cases h1 : k < len
        · have i1 : (k : Int) < (len : Int) := by omega
          have i2 : ¬ (k : Int) < 40 := by omega
          clear hk
          go_wp2_with fail
          refine wp_region_noPanic ?_
          refine wp_region_held_drew (S := Bw wr.drew) (by kernel_rfl) (Below.refl _ _) (fun hHeld => ?_)
          revert SD HL0 hHeld
          generalize wr.drew = we
          intro HL SK hHeld
          refine wpAnyH_take (i := 0) (v := ?va13) (by simp; rfl) (by kernel_rfl) (by kernel_rfl) (by kernel_rfl) (fun _ _ _ h => h) (Or.inl ⟨by rfl, ?ya13⟩) hHeld ?ra13
          case ya13 => intro w hSw; clear hSw; go_simp; with_reducible rfl
          simp only [Act.put, List.setIfInBounds_toArray, List.set_cons_zero, List.set_cons_succ]
          refine wpAnyH_take (i := 1) (v := ?va14) (by simp; rfl) (by kernel_rfl) (by kernel_rfl) (by kernel_rfl) (fun _ _ _ h => h) (Or.inl ⟨by rfl, ?ya14⟩) hHeld ?ra14
          case ya14 => intro w hSw; clear hSw; go_simp; with_reducible rfl
          simp only [Act.put, List.setIfInBounds_toArray, List.set_cons_zero, List.set_cons_succ]
          refine wpAnyH_take (i := 2) (v := ?va15) (by simp; rfl) (by kernel_rfl) (by kernel_rfl) (by kernel_rfl) (fun _ _ _ h => h) (Or.inl ⟨by rfl, ?ya15⟩) hHeld ?ra15
          case ya15 => intro w hSw; have z := (HL.out w hSw).1; clear hSw; go_simp; with_reducible rfl
          simp only [Act.put, List.setIfInBounds_toArray, List.set_cons_zero, List.set_cons_succ]
          refine wpAnyH_take (i := 3) (v := ?va16) (by simp; rfl) (by kernel_rfl) (by kernel_rfl) (by kernel_rfl) (fun _ _ _ h => h) (Or.inl ⟨by rfl, ?ya16⟩) hHeld ?ra16
          case ya16 => intro w hSw; clear hSw; go_simp; with_reducible rfl
          simp only [Act.put, List.setIfInBounds_toArray, List.set_cons_zero, List.set_cons_succ]
          refine wpAnyH_take (i := 4) (v := ?va17) (by simp; rfl) (by kernel_rfl) (by kernel_rfl) (by kernel_rfl) (fun _ _ _ h => h) (Or.inl ⟨by rfl, ?ya17⟩) hHeld ?ra17
          case ya17 => intro w hSw; clear hSw; go_simp; with_reducible rfl
          simp only [Act.put, List.setIfInBounds_toArray, List.set_cons_zero, List.set_cons_succ]
          refine wpAnyH_take (i := 5) (v := ?va18) (by simp; rfl) (by kernel_rfl) (by kernel_rfl) (by kernel_rfl) (fun _ _ _ h => h) (Or.inl ⟨by rfl, ?ya18⟩) hHeld ?ra18
          case ya18 => intro w hSw; clear hSw; go_simp; with_reducible rfl
          simp only [Act.put, List.setIfInBounds_toArray, List.set_cons_zero, List.set_cons_succ]
          refine wpAnyH_take (i := 6) (v := ?va19) (by simp; rfl) (by kernel_rfl) (by kernel_rfl) (by kernel_rfl) (fun _ _ _ h => h) (Or.inl ⟨by rfl, ?ya19⟩) hHeld ?ra19
          case ya19 => intro w hSw; clear hSw; go_simp; with_reducible rfl
          simp only [Act.put, List.setIfInBounds_toArray, List.set_cons_zero, List.set_cons_succ]
          refine wpAnyH_take (i := 7) (v := ?va20) (by simp; rfl) (by kernel_rfl) (by kernel_rfl) (by kernel_rfl) (fun _ _ _ h => h) (Or.inl ⟨by rfl, ?ya20⟩) hHeld ?ra20
          case ya20 => intro w hSw; have z := (HL.out w hSw).2.1; clear hSw; go_simp; with_reducible rfl
          simp only [Act.put, List.setIfInBounds_toArray, List.set_cons_zero, List.set_cons_succ]
          refine wpAnyH_take (i := 8) (v := ?va21) (by simp; rfl) (by kernel_rfl) (by kernel_rfl) (by kernel_rfl) (fun _ _ _ h => h) (Or.inl ⟨by rfl, ?ya21⟩) hHeld ?ra21
          case ya21 => intro w hSw; clear hSw; go_simp; with_reducible rfl
          simp only [Act.put, List.setIfInBounds_toArray, List.set_cons_zero, List.set_cons_succ]
          refine wpAnyH_take (i := 9) (v := ?va22) (by simp; rfl) (by kernel_rfl) (by kernel_rfl) (by kernel_rfl) (fun _ _ _ h => h) (Or.inl ⟨by rfl, ?ya22⟩) hHeld ?ra22
          case ya22 => intro w hSw; clear hSw; go_simp; with_reducible rfl
          simp only [Act.put, List.setIfInBounds_toArray, List.set_cons_zero, List.set_cons_succ]
          refine wpAnyH_take (i := 10) (v := ?va23) (by simp; rfl) (by kernel_rfl) (by kernel_rfl) (by kernel_rfl) (fun _ _ _ h => h) (Or.inl ⟨by rfl, ?ya23⟩) hHeld ?ra23
          case ya23 => intro w hSw; clear hSw; go_simp; with_reducible rfl
          simp only [Act.put, List.setIfInBounds_toArray, List.set_cons_zero, List.set_cons_succ]
          refine wpAnyH_take (i := 11) (v := ?va24) (by simp; rfl) (by kernel_rfl) (by kernel_rfl) (by kernel_rfl) (fun _ _ _ h => h) (Or.inl ⟨by rfl, ?ya24⟩) hHeld ?ra24
          case ya24 => intro w hSw; clear hSw; go_simp; with_reducible rfl
          simp only [Act.put, List.setIfInBounds_toArray, List.set_cons_zero, List.set_cons_succ]
          refine wpAnyH_take (i := 12) (v := ?va25) (by simp; rfl) (by kernel_rfl) (by kernel_rfl) (by kernel_rfl) (fun _ _ _ h => h) (Or.inl ⟨by rfl, ?ya25⟩) hHeld ?ra25
          case ya25 => intro w hSw; clear hSw; go_simp; with_reducible rfl
          simp only [Act.put, List.setIfInBounds_toArray, List.set_cons_zero, List.set_cons_succ]
          refine wpAnyH_take (i := 13) (v := ?va26) (by simp; rfl) (by kernel_rfl) (by kernel_rfl) (by kernel_rfl) (fun _ _ _ h => h) (Or.inl ⟨by rfl, ?ya26⟩) hHeld ?ra26
          case ya26 => intro w hSw; have z := (HL.out w hSw).1; clear hSw; go_simp; with_reducible rfl
          simp only [Act.put, List.setIfInBounds_toArray, List.set_cons_zero, List.set_cons_succ]
          refine wpAnyH_take (i := 14) (v := ?va27) (by simp; rfl) (by kernel_rfl) (by kernel_rfl) (by kernel_rfl) (fun _ _ _ h => h) (Or.inl ⟨by rfl, ?ya27⟩) hHeld ?ra27
          case ya27 => intro w hSw; clear hSw; go_simp; with_reducible rfl
          simp only [Act.put, List.setIfInBounds_toArray, List.set_cons_zero, List.set_cons_succ]
          refine wpAnyH_take (i := 15) (v := ?va28) (by simp; rfl) (by kernel_rfl) (by kernel_rfl) (by kernel_rfl) (fun _ _ _ h => h) (Or.inl ⟨by rfl, ?ya28⟩) hHeld ?ra28
          case ya28 => intro w hSw; clear hSw; go_simp; with_reducible rfl
          simp only [Act.put, List.setIfInBounds_toArray, List.set_cons_zero, List.set_cons_succ]
          refine wpAnyH_take (i := 16) (v := ?va29) (by simp; rfl) (by kernel_rfl) (by kernel_rfl) (by kernel_rfl) (fun _ _ _ h => h) (Or.inl ⟨by rfl, ?ya29⟩) hHeld ?ra29
          case ya29 => intro w hSw; have z := (HL.out w hSw).2.2.1; clear hSw; go_simp; with_reducible rfl
          simp only [Act.put, List.setIfInBounds_toArray, List.set_cons_zero, List.set_cons_succ]
          refine wpAnyH_ready (rs := [17]) (by kernel_rfl) (by simp) ?_
          refine AllReadyH.cons (by simp; rfl) (fun Kc hKc => ?_) AllReadyH.nil
          go_simp
          refine (whole_at (SK.out.pr 0 (by omega)) (by omega)).mono ?_
          rintro e w8 ⟨rfl, hb8⟩
          have H8 : Hid (Bw we w8) := hb8
          clear hb8
          refine hKc.out _ _ H8.out (fun hHeld => ?_)
          clear hKc Kc
          refine wpAnyH_take (i := 18) (v := ?va30) (by simp; rfl) (by kernel_rfl) (by kernel_rfl) (by kernel_rfl) (fun _ _ _ h => h) (Or.inl ⟨by rfl, ?ya30⟩) hHeld ?ra30
          case ya30 => intro w hSw; clear hSw; go_simp; with_reducible rfl
          simp only [Act.put, List.setIfInBounds_toArray, List.set_cons_zero, List.set_cons_succ]
          refine wpAnyH_take (i := 19) (v := ?va31) (by simp; rfl) (by kernel_rfl) (by kernel_rfl) (by kernel_rfl) (fun _ _ _ h => h) (Or.inl ⟨by rfl, ?ya31⟩) hHeld ?ra31
          case ya31 => intro w hSw; clear hSw; go_simp; with_reducible rfl
          simp only [Act.put, List.setIfInBounds_toArray, List.set_cons_zero, List.set_cons_succ]
          refine wpAnyH_take (i := 20) (v := ?va32) (by simp; rfl) (by kernel_rfl) (by kernel_rfl) (by kernel_rfl) (fun _ _ _ h => h) (Or.inl ⟨by rfl, ?ya32⟩) hHeld ?ra32
          case ya32 => intro w hSw; clear hSw; go_simp; with_reducible rfl
          simp only [Act.put, List.setIfInBounds_toArray, List.set_cons_zero, List.set_cons_succ]
          refine wpAnyH_take (i := 21) (v := ?va33) (by simp; rfl) (by kernel_rfl) (by kernel_rfl) (by kernel_rfl) (fun _ _ _ h => h) (Or.inl ⟨by rfl, ?ya33⟩) hHeld ?ra33
          case ya33 => intro w hSw; clear hSw; go_simp; with_reducible rfl
          simp only [Act.put, List.setIfInBounds_toArray, List.set_cons_zero, List.set_cons_succ]
          refine wpAnyH_take (i := 22) (v := ?va34) (by simp; rfl) (by kernel_rfl) (by kernel_rfl) (by kernel_rfl) (fun _ _ _ h => h) (Or.inl ⟨by rfl, ?ya34⟩) hHeld ?ra34
          case ya34 => intro w hSw; have z := (HL.out w hSw).2.1; clear hSw; go_simp; with_reducible rfl
          simp only [Act.put, List.setIfInBounds_toArray, List.set_cons_zero, List.set_cons_succ]
          refine wpAnyH_take (i := 23) (v := ?va35) (by simp; rfl) (by kernel_rfl) (by kernel_rfl) (by kernel_rfl) (fun _ _ _ h => h) (Or.inl ⟨by rfl, ?ya35⟩) hHeld ?ra35
          case ya35 => intro w hSw; clear hSw; go_simp; with_reducible rfl
          simp only [Act.put, List.setIfInBounds_toArray, List.set_cons_zero, List.set_cons_succ]
          refine wpAnyH_take (i := 24) (v := ?va36) (by simp; rfl) (by kernel_rfl) (by kernel_rfl) (by kernel_rfl) (fun _ _ _ h => h) (Or.inl ⟨by rfl, ?ya36⟩) hHeld ?ra36
          case ya36 => intro w hSw; clear hSw; go_simp; with_reducible rfl
          simp only [Act.put, List.setIfInBounds_toArray, List.set_cons_zero, List.set_cons_succ]
          refine wpAnyH_take (i := 25) (v := ?va37) (by simp; rfl) (by kernel_rfl) (by kernel_rfl) (by kernel_rfl) (fun _ _ _ h => h) (Or.inl ⟨by rfl, ?ya37⟩) hHeld ?ra37
          case ya37 => intro w hSw; have z := (HL.out w hSw).2.2.2; clear hSw; go_simp; with_reducible rfl
          simp only [Act.put, List.setIfInBounds_toArray, List.set_cons_zero, List.set_cons_succ]
          refine wpAnyH_ready (rs := [26]) (by kernel_rfl) (by simp) ?_
          refine AllReadyH.cons (by simp; rfl) (fun Kc hKc => ?_) AllReadyH.nil
          go_simp
          refine (whole_at ((SK.out.pr 1 (by omega)).later H8.out) (by omega)).mono ?_
          rintro e w9 ⟨rfl, hb9⟩
          have H9 : Hid (Bw we w9) := below_then H8.out hb9
          clear hb9
          refine hKc.out _ _ H9.out (fun hHeld => ?_)
          clear hKc Kc
          refine wpAnyH_take (i := 27) (v := ?va38) (by simp; rfl) (by kernel_rfl) (by kernel_rfl) (by kernel_rfl) (fun _ _ _ h => h) (Or.inl ⟨by rfl, ?ya38⟩) hHeld ?ra38
          case ya38 => intro w hSw; clear hSw; go_simp; with_reducible rfl
          simp only [Act.put, List.setIfInBounds_toArray, List.set_cons_zero, List.set_cons_succ]
          refine wpAnyH_ready (rs := [28]) (by kernel_rfl) (by simp) ?_
          refine AllReadyH.cons (by simp; rfl) (fun Kc hKc => ?_) AllReadyH.nil
          go_simp
          refine hKc.out _ _ H9.out (fun hHeld => ?_)
          clear hKc Kc
          refine wpAnyH_done (by kernel_rfl) (NoPanic.normal ?_) _
          go_wp2
          go_ret
          exact ⟨rfl, below_then SK.out.below H9.out⟩
        · have i1 : ¬ (k : Int) < (len : Int) := by omega
          clear hk
          go_wp2_with fail
          refine wp_region_noPanic ?_
          refine wp_region_held_drew (S := Bw wr.drew) (by kernel_rfl) (Below.refl _ _) (fun hHeld => ?_)
          revert SD HL0 hHeld
          generalize wr.drew = we
          intro HL SK hHeld
          refine wpAnyH_take (i := 0) (v := ?va39) (by simp; rfl) (by kernel_rfl) (by kernel_rfl) (by kernel_rfl) (fun _ _ _ h => h) (Or.inl ⟨by rfl, ?ya39⟩) hHeld ?ra39
          case ya39 => intro w hSw; clear hSw; go_simp; with_reducible rfl
          simp only [Act.put, List.setIfInBounds_toArray, List.set_cons_zero, List.set_cons_succ]
          refine wpAnyH_take (i := 1) (v := ?va40) (by simp; rfl) (by kernel_rfl) (by kernel_rfl) (by kernel_rfl) (fun _ _ _ h => h) (Or.inl ⟨by rfl, ?ya40⟩) hHeld ?ra40
          case ya40 => intro w hSw; clear hSw; go_simp; with_reducible rfl
          simp only [Act.put, List.setIfInBounds_toArray, List.set_cons_zero, List.set_cons_succ]
          refine wpAnyH_take (i := 2) (v := ?va41) (by simp; rfl) (by kernel_rfl) (by kernel_rfl) (by kernel_rfl) (fun _ _ _ h => h) (Or.inl ⟨by rfl, ?ya41⟩) hHeld ?ra41
          case ya41 => intro w hSw; have z := (HL.out w hSw).1; clear hSw; go_simp; with_reducible rfl
          simp only [Act.put, List.setIfInBounds_toArray, List.set_cons_zero, List.set_cons_succ]
          refine wpAnyH_take (i := 3) (v := ?va42) (by simp; rfl) (by kernel_rfl) (by kernel_rfl) (by kernel_rfl) (fun _ _ _ h => h) (Or.inl ⟨by rfl, ?ya42⟩) hHeld ?ra42
          case ya42 => intro w hSw; clear hSw; go_simp; with_reducible rfl
          simp only [Act.put, List.setIfInBounds_toArray, List.set_cons_zero, List.set_cons_succ]
          refine wpAnyH_take (i := 4) (v := ?va43) (by simp; rfl) (by kernel_rfl) (by kernel_rfl) (by kernel_rfl) (fun _ _ _ h => h) (Or.inl ⟨by rfl, ?ya43⟩) hHeld ?ra43
          case ya43 => intro w hSw; clear hSw; go_simp; with_reducible rfl
          simp only [Act.put, List.setIfInBounds_toArray, List.set_cons_zero, List.set_cons_succ]
          refine wpAnyH_take (i := 5) (v := ?va44) (by simp; rfl) (by kernel_rfl) (by kernel_rfl) (by kernel_rfl) (fun _ _ _ h => h) (Or.inl ⟨by rfl, ?ya44⟩) hHeld ?ra44
          case ya44 => intro w hSw; clear hSw; go_simp; with_reducible rfl
          simp only [Act.put, List.setIfInBounds_toArray, List.set_cons_zero, List.set_cons_succ]
          refine wpAnyH_take (i := 6) (v := ?va45) (by simp; rfl) (by kernel_rfl) (by kernel_rfl) (by kernel_rfl) (fun _ _ _ h => h) (Or.inl ⟨by rfl, ?ya45⟩) hHeld ?ra45
          case ya45 => intro w hSw; clear hSw; go_simp; with_reducible rfl
          simp only [Act.put, List.setIfInBounds_toArray, List.set_cons_zero, List.set_cons_succ]
          refine wpAnyH_take (i := 7) (v := ?va46) (by simp; rfl) (by kernel_rfl) (by kernel_rfl) (by kernel_rfl) (fun _ _ _ h => h) (Or.inl ⟨by rfl, ?ya46⟩) hHeld ?ra46
          case ya46 => intro w hSw; have z := (HL.out w hSw).2.1; clear hSw; go_simp; with_reducible rfl
          simp only [Act.put, List.setIfInBounds_toArray, List.set_cons_zero, List.set_cons_succ]
          refine wpAnyH_take (i := 8) (v := ?va47) (by simp; rfl) (by kernel_rfl) (by kernel_rfl) (by kernel_rfl) (fun _ _ _ h => h) (Or.inl ⟨by rfl, ?ya47⟩) hHeld ?ra47
          case ya47 => intro w hSw; clear hSw; go_simp; with_reducible rfl
          simp only [Act.put, List.setIfInBounds_toArray, List.set_cons_zero, List.set_cons_succ]
          refine wpAnyH_take (i := 9) (v := ?va48) (by simp; rfl) (by kernel_rfl) (by kernel_rfl) (by kernel_rfl) (fun _ _ _ h => h) (Or.inl ⟨by rfl, ?ya48⟩) hHeld ?ra48
          case ya48 => intro w hSw; clear hSw; go_simp; with_reducible rfl
          simp only [Act.put, List.setIfInBounds_toArray, List.set_cons_zero, List.set_cons_succ]
          refine wpAnyH_take (i := 10) (v := ?va49) (by simp; rfl) (by kernel_rfl) (by kernel_rfl) (by kernel_rfl) (fun _ _ _ h => h) (Or.inl ⟨by rfl, ?ya49⟩) hHeld ?ra49
          case ya49 => intro w hSw; clear hSw; go_simp; with_reducible rfl
          simp only [Act.put, List.setIfInBounds_toArray, List.set_cons_zero, List.set_cons_succ]
          refine wpAnyH_take (i := 11) (v := ?va50) (by simp; rfl) (by kernel_rfl) (by kernel_rfl) (by kernel_rfl) (fun _ _ _ h => h) (Or.inl ⟨by rfl, ?ya50⟩) hHeld ?ra50
          case ya50 => intro w hSw; clear hSw; go_simp; with_reducible rfl
          simp only [Act.put, List.setIfInBounds_toArray, List.set_cons_zero, List.set_cons_succ]
          refine wpAnyH_take (i := 12) (v := ?va51) (by simp; rfl) (by kernel_rfl) (by kernel_rfl) (by kernel_rfl) (fun _ _ _ h => h) (Or.inl ⟨by rfl, ?ya51⟩) hHeld ?ra51
          case ya51 => intro w hSw; clear hSw; go_simp; with_reducible rfl
          simp only [Act.put, List.setIfInBounds_toArray, List.set_cons_zero, List.set_cons_succ]
          refine wpAnyH_take (i := 13) (v := ?va52) (by simp; rfl) (by kernel_rfl) (by kernel_rfl) (by kernel_rfl) (fun _ _ _ h => h) (Or.inl ⟨by rfl, ?ya52⟩) hHeld ?ra52
          case ya52 => intro w hSw; have z := (HL.out w hSw).1; clear hSw; go_simp; with_reducible rfl
          simp only [Act.put, List.setIfInBounds_toArray, List.set_cons_zero, List.set_cons_succ]
          refine wpAnyH_take (i := 14) (v := ?va53) (by simp; rfl) (by kernel_rfl) (by kernel_rfl) (by kernel_rfl) (fun _ _ _ h => h) (Or.inl ⟨by rfl, ?ya53⟩) hHeld ?ra53
          case ya53 => intro w hSw; clear hSw; go_simp; with_reducible rfl
          simp only [Act.put, List.setIfInBounds_toArray, List.set_cons_zero, List.set_cons_succ]
          refine wpAnyH_take (i := 15) (v := ?va54) (by simp; rfl) (by kernel_rfl) (by kernel_rfl) (by kernel_rfl) (fun _ _ _ h => h) (Or.inl ⟨by rfl, ?ya54⟩) hHeld ?ra54
          case ya54 => intro w hSw; clear hSw; go_simp; with_reducible rfl
          simp only [Act.put, List.setIfInBounds_toArray, List.set_cons_zero, List.set_cons_succ]
          refine wpAnyH_take (i := 16) (v := ?va55) (by simp; rfl) (by kernel_rfl) (by kernel_rfl) (by kernel_rfl) (fun _ _ _ h => h) (Or.inl ⟨by rfl, ?ya55⟩) hHeld ?ra55
          case ya55 => intro w hSw; have z := (HL.out w hSw).2.2.1; clear hSw; go_simp; with_reducible rfl
          simp only [Act.put, List.setIfInBounds_toArray, List.set_cons_zero, List.set_cons_succ]
          refine wpAnyH_ready (rs := [17]) (by kernel_rfl) (by simp) ?_
          refine AllReadyH.cons (by simp; rfl) (fun Kc hKc => ?_) AllReadyH.nil
          go_simp
          refine (whole_at (SK.out.pr 0 (by omega)) (by omega)).mono ?_
          rintro e w8 ⟨rfl, hb8⟩
          have H8 : Hid (Bw we w8) := hb8
          clear hb8
          refine hKc.out _ _ H8.out (fun hHeld => ?_)
          clear hKc Kc
          refine wpAnyH_take (i := 18) (v := ?va56) (by simp; rfl) (by kernel_rfl) (by kernel_rfl) (by kernel_rfl) (fun _ _ _ h => h) (Or.inl ⟨by rfl, ?ya56⟩) hHeld ?ra56
          case ya56 => intro w hSw; clear hSw; go_simp; with_reducible rfl
          simp only [Act.put, List.setIfInBounds_toArray, List.set_cons_zero, List.set_cons_succ]
          refine wpAnyH_take (i := 19) (v := ?va57) (by simp; rfl) (by kernel_rfl) (by kernel_rfl) (by kernel_rfl) (fun _ _ _ h => h) (Or.inl ⟨by rfl, ?ya57⟩) hHeld ?ra57
          case ya57 => intro w hSw; clear hSw; go_simp; with_reducible rfl
          simp only [Act.put, List.setIfInBounds_toArray, List.set_cons_zero, List.set_cons_succ]
          refine wpAnyH_take (i := 20) (v := ?va58) (by simp; rfl) (by kernel_rfl) (by kernel_rfl) (by kernel_rfl) (fun _ _ _ h => h) (Or.inl ⟨by rfl, ?ya58⟩) hHeld ?ra58
          case ya58 => intro w hSw; clear hSw; go_simp; with_reducible rfl
          simp only [Act.put, List.setIfInBounds_toArray, List.set_cons_zero, List.set_cons_succ]
          refine wpAnyH_take (i := 21) (v := ?va59) (by simp; rfl) (by kernel_rfl) (by kernel_rfl) (by kernel_rfl) (fun _ _ _ h => h) (Or.inl ⟨by rfl, ?ya59⟩) hHeld ?ra59
          case ya59 => intro w hSw; clear hSw; go_simp; with_reducible rfl
          simp only [Act.put, List.setIfInBounds_toArray, List.set_cons_zero, List.set_cons_succ]
          refine wpAnyH_take (i := 22) (v := ?va60) (by simp; rfl) (by kernel_rfl) (by kernel_rfl) (by kernel_rfl) (fun _ _ _ h => h) (Or.inl ⟨by rfl, ?ya60⟩) hHeld ?ra60
          case ya60 => intro w hSw; have z := (HL.out w hSw).2.1; clear hSw; go_simp; with_reducible rfl
          simp only [Act.put, List.setIfInBounds_toArray, List.set_cons_zero, List.set_cons_succ]
          refine wpAnyH_take (i := 23) (v := ?va61) (by simp; rfl) (by kernel_rfl) (by kernel_rfl) (by kernel_rfl) (fun _ _ _ h => h) (Or.inl ⟨by rfl, ?ya61⟩) hHeld ?ra61
          case ya61 => intro w hSw; clear hSw; go_simp; with_reducible rfl
          simp only [Act.put, List.setIfInBounds_toArray, List.set_cons_zero, List.set_cons_succ]
          refine wpAnyH_take (i := 24) (v := ?va62) (by simp; rfl) (by kernel_rfl) (by kernel_rfl) (by kernel_rfl) (fun _ _ _ h => h) (Or.inl ⟨by rfl, ?ya62⟩) hHeld ?ra62
          case ya62 => intro w hSw; clear hSw; go_simp; with_reducible rfl
          simp only [Act.put, List.setIfInBounds_toArray, List.set_cons_zero, List.set_cons_succ]
          refine wpAnyH_take (i := 25) (v := ?va63) (by simp; rfl) (by kernel_rfl) (by kernel_rfl) (by kernel_rfl) (fun _ _ _ h => h) (Or.inl ⟨by rfl, ?ya63⟩) hHeld ?ra63
          case ya63 => intro w hSw; have z := (HL.out w hSw).2.2.2; clear hSw; go_simp; with_reducible rfl
          simp only [Act.put, List.setIfInBounds_toArray, List.set_cons_zero, List.set_cons_succ]
          refine wpAnyH_ready (rs := [26]) (by kernel_rfl) (by simp) ?_
          refine AllReadyH.cons (by simp; rfl) (fun Kc hKc => ?_) AllReadyH.nil
          go_simp
          refine (whole_at ((SK.out.pr 1 (by omega)).later H8.out) (by omega)).mono ?_
          rintro e w9 ⟨rfl, hb9⟩
          have H9 : Hid (Bw we w9) := below_then H8.out hb9
          clear hb9
          refine hKc.out _ _ H9.out (fun hHeld => ?_)
          clear hKc Kc
          refine wpAnyH_take (i := 27) (v := ?va64) (by simp; rfl) (by kernel_rfl) (by kernel_rfl) (by kernel_rfl) (fun _ _ _ h => h) (Or.inl ⟨by rfl, ?ya64⟩) hHeld ?ra64
          case ya64 => intro w hSw; clear hSw; go_simp; with_reducible rfl
          simp only [Act.put, List.setIfInBounds_toArray, List.set_cons_zero, List.set_cons_succ]
          refine wpAnyH_ready (rs := [28]) (by kernel_rfl) (by simp) ?_
          refine AllReadyH.cons (by simp; rfl) (fun Kc hKc => ?_) AllReadyH.nil
          go_simp
          refine hKc.out _ _ H9.out (fun hHeld => ?_)
          clear hKc Kc
          refine wpAnyH_done (by kernel_rfl) (NoPanic.normal ?_) _
          go_wp2
          go_ret
          exact ⟨rfl, below_then SK.out.below H9.out⟩
end
end Go.Proofs.Ytkffmglcllhbmaa
