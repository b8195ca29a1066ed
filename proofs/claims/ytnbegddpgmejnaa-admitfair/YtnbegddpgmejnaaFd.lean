/-
  Layer 13: AdmitFair.
-/
import Derived.Test.YtnbegddpgmejnaaFc
import Derived.Test.YtnbegddpgmejnaaAk
namespace Go.Proofs.Ytnbegddpgmejnaa
open Go.RowKit


section
variable {w0 w w' : World} {F F' : Ft} {n : Nat} {a a' : Ad} {o : OpV} {xs : List Int}
theorem st_refused {a : Ad} {kd : Int} {xs : List Int} {t k : Int} (h : a.stE kd xs t k ≠ 0) : a.stS kd xs t k = a := by
  unfold Ad.stE at h
  unfold Ad.stS
  split at h
  · rename_i e; rw [if_pos e]; simp only [Ad.begS, if_neg h]
  · rename_i e; rw [if_neg e]
    split at h
    · rename_i e; rw [if_pos e]; simp only [Ad.entS, if_neg h]
    · rename_i e; rw [if_neg e]
      split at h
      · rename_i e; rw [if_pos e]; simp only [Ad.appS, if_neg h]
      · rename_i e; rw [if_neg e]
        split at h
        · rename_i e; rw [if_pos e]; simp only [Ad.donS, if_neg h]
        · rename_i e; rw [if_neg e]
          split at h
          · rename_i e; rw [if_pos e]; simp only [Ad.leaS, if_neg h]
          · rename_i e; rw [if_neg e]
            split at h
            · rename_i e
              rw [if_pos e]
              unfold Ad.freE at h
              unfold Ad.freS
              split at h
              · exact absurd rfl h
              · rename_i e2; rw [if_neg e2]
            · rename_i e; rw [if_neg e]
theorem st_cfg (a : Ad) (kd : Int) (xs : List Int) (t k : Int) : cfgA (a.stS kd xs t k) = cfgA a := by
  unfold Ad.stS Ad.begS Ad.entS Ad.appS Ad.donS Ad.leaS Ad.freS
  split
  · split <;> rfl
  split
  · split <;> rfl
  split
  · split <;> rfl
  split
  · split <;> rfl
  split
  · split <;> rfl
  split
  · split <;> rfl
  rfl
theorem st_ok {a : Ad} (h : a.Ok) (kd : Int) (xs : List Int) (t k : Int) : (a.stS kd xs t k).Ok := by
  unfold Ad.stS
  split
  · exact h.beg _
  split
  · exact h.ent
  split
  · exact h.app _
  split
  · exact h.don _
  split
  · exact h.lea _
  split
  · exact h.fre _
  exact h
theorem st_next (a : Ad) (kd : Int) (xs : List Int) (t k : Int) : (a.stS kd xs t k).next ≤ a.next + 1 := by
  unfold Ad.stS Ad.begS Ad.entS Ad.appS Ad.donS Ad.leaS Ad.freS
  split
  · split
    · exact Int.le_refl _
    · omega
  split
  · split <;> (show a.next ≤ _; omega)
  split
  · split <;> (show a.next ≤ _; omega)
  split
  · split <;> (show a.next ≤ _; omega)
  split
  · split <;> (show a.next ≤ _; omega)
  split
  · split <;> (show a.next ≤ _; omega)
  omega
theorem app_sum {a : Ad} {t : Int} (h : a.appE t = 0) : (a.appS t).used + (a.appS t).rsv ≤ a.used + a.rsv := by
  obtain ⟨f, n, hf, _⟩ := Ad.appE_ok h
  simp only [Ad.appS, if_pos h, Ad.rsv]
  rw [lefts_dec hf, L.total_set (n := n) (by rw [look_lefts, hf]; rfl)]
  omega
theorem don_sum {a : Ad} (ok : a.Ok) {t : Int} (h : a.donE t = 0) : (a.donS t).used + (a.donS t).rsv ≤ a.used + a.rsv := by
  obtain ⟨f, n, hf⟩ := Ad.fi_of h
  have h3 := ok.iform _ (fi_mem hf)
  simp only at h3
  simp only [Ad.donS, if_pos h, Ad.rsv]
  rw [lefts_cut, L.total_cut (n := n) (by rw [look_lefts, hf]; rfl)]
  omega
/-- sees, behind a step -/
theorem sees_at {X : Nat} {sm : Int} {pw : Option Addr} {mw cw : Nat} (ok0 : a'.Ok) (hst : a = a'.stS o.kd xs o.t o.k) (h : PL w F n a) (hN : a.next ≤ 1000) (hG : ∀ g, F.G g → g < w.heap.size) (hX : FX w X (a'.next - 1) a'.got) (hz : B.IIn w pw mw a'.told) (hsm : sm = a'.used + a'.rsv) :
    Calls Try.prog 25 #[.pointer (some ⟨X, 0, none⟩), cfgA a', qp F.Q, .agg (ocells o), .int .i64 (a'.stE o.kd xs o.t o.k), .int .u64 (a'.stT o.kd xs), .slice pw mw cw, .int .i64 sm] w fun e w' => e = .returned (.bool true) ∧ PL w' F n a ∧ FX w' X (a.next - 1) a.got ∧ Kept (· = X) w w' := by
  have hcf : cfgA a' = cfgA a := by rw [hst, st_cfg]
  rw [hcf]
  have h0 := ok0.got0
  have h1 := ok0.gotN
  by_cases hE : a'.stE o.kd xs o.t o.k = 0
  · by_cases k1 : o.kd = 1
    · have e1 : a'.begE (xs.take 100) = 0 := by simpa [Ad.stE, k1] using hE
      have e2 : a'.stT o.kd xs = a'.next := by simp [Ad.stT, k1, Ad.begT, e1]
      have e3 : a.next = a'.next + 1 ∧ a.got = a'.got := by rw [hst]; simp [Ad.stS, k1, Ad.begS, e1]
      rw [hE, e2]
      refine (sees_begin h hN hG hX k1 (T := a'.next) (by omega) (by omega) (by omega)).mono ?_
      rintro e w' ⟨rfl, g1, g2, g3⟩
      exact ⟨rfl, g1, by rw [e3.1, e3.2, show a'.next + 1 - 1 = a'.next by omega]; exact g2, g3⟩
    by_cases k2 : o.kd = 2
    · have e1 : a'.entE = 0 := by simpa [Ad.stE, k2] using hE
      have e2 : a'.stT o.kd xs = a'.fT := by simp [Ad.stT, k2, Ad.entT, e1]
      have e3 : a.next = a'.next ∧ a.got = a'.fT := by rw [hst]; simp [Ad.stS, k2, Ad.entS, e1]
      obtain ⟨x, r, hW, _⟩ := Ad.entE_ok e1
      have h3 := ok0.win x (by rw [hW]; exact List.mem_cons_self ..)
      have h4 : a'.fT = x.1 := by simp [Ad.fT, hW]
      rw [hE, e2]
      refine (sees_enter h hN hG hX k2 (T := a'.fT) (by omega) (by omega)).mono ?_
      rintro e w' ⟨rfl, g1, g2, g3⟩
      exact ⟨rfl, g1, by rw [e3.1, e3.2]; exact g2, g3⟩
    have e2 : a'.stT o.kd xs = 0 := by simp [Ad.stT, k1, k2]
    have e3 : a.next = a'.next ∧ a.got = a'.got := by
      rw [hst]
      simp only [Ad.stS, if_neg k1, if_neg k2]
      split
      · simp only [Ad.appS]; split <;> exact ⟨rfl, rfl⟩
      split
      · simp only [Ad.donS]; split <;> exact ⟨rfl, rfl⟩
      split
      · simp only [Ad.leaS]; split <;> exact ⟨rfl, rfl⟩
      split
      · simp only [Ad.freS]; split <;> exact ⟨rfl, rfl⟩
      exact ⟨rfl, rfl⟩
    rw [hE, e3.1, e3.2]
    by_cases k3 : o.kd = 3
    · have e1 : a'.appE o.t = 0 := by simpa [Ad.stE, k3] using hE
      exact sees_app h hN hG hX k3 (by rw [hst, hsm]; simpa [Ad.stS, k3] using app_sum e1)
    by_cases k4 : o.kd = 4
    · have e1 : a'.donE o.t = 0 := by simpa [Ad.stE, k4] using hE
      exact sees_don h hN hG hX k4 (by rw [hst, hsm]; simpa [Ad.stS, k4] using don_sum ok0 e1)
    exact sees_oth h hN hG hX k1 k2 k3 k4
  · have e1 := st_refused hE
    rw [e1] at hst
    subst hst
    refine (sees_bad h hN hG hX hE hz rfl).mono ?_
    rintro e w' ⟨rfl, g1, g2, g3⟩
    exact ⟨rfl, g1, g2, Kept.of_below _ g3⟩
end
/-- how a script lies -/
structure ScIn (w : World) (p : Option Addr) (n : Nat) (f : Nat → OpV) (g : Nat → List Int) : Prop where
  cells : 0 < n → ∃ b o, p = some ⟨b, o, none⟩ ∧ ∀ i, i < n → w.rangeAt b (o + i * 5) (ocells (f i)).toList
  each : ∀ i, i < n → OpOk w (f i) (g i)
theorem ScIn.later {w w' : World} {p : Option Addr} {n : Nat} {f : Nat → OpV} {g : Nat → List Int} (h : ScIn w p n f g) (hb : Below w.heap.size w w') : ScIn w' p n f g := by
  refine ⟨fun h0 => ?_, fun i hi => (h.each i hi).later hb⟩
  obtain ⟨b, o, rfl, hc⟩ := h.cells h0
  refine ⟨b, o, rfl, fun i hi j u hj => ?_⟩
  have := hc i hi j u hj
  exact (hb.cell (p := ⟨b, o + i * 5 + j, none⟩) (World.block_lt_of_cell? w _ this)).trans this
/-- what stands ahead of each step -/
structure FI (w w' : World) (Q X C : Nat) (k : Nat) (cf : Value) (F : Ft) (n : Nat) (a : Ad) : Prop where
  pl : PL w' F n a
  q : F.Q = Q
  nk : n ≤ 2 * k
  nx : a.next ≤ k + 1
  up : ∀ b, F.has b → w.heap.size ≤ b
  g : ∀ b, F.G b → b < w'.heap.size
  fx : FX w' X (a.next - 1) a.got
  xw : w.heap.size ≤ X
  cfg : cfgA a = cf
  cx : w'.heap[C]? = some (.cells #[.int .i64 a.bl, .int .i64 a.lc, .int .i64 a.mr, .int .i64 a.hi, .int .i64 a.cl] 28 (0, 0))
  below : Below w.heap.size w w'
section
variable {w w' v : World} {Q X C k : Nat} {cf : Value} {F : Ft} {n : Nat} {a : Ad}
theorem FI.later (h : FI w w' Q X C k cf F n a) (hb : Below w'.heap.size w' v) : FI w v Q X C k cf F n a :=
  ⟨h.pl.later hb, h.q, h.nk, h.nx, h.up, fun b hb' => Nat.lt_of_lt_of_le (h.g b hb') hb.size, h.fx.later hb, h.xw, h.cfg, (hb.block C (Array.getElem?_eq_some_iff.1 h.cx).1).trans h.cx, h.below.trans (hb.mono h.below.size)⟩
theorem FI.cc (h : FI w w' Q X C k cf F n a) (o : Nat) : w'.cell? ⟨C, o, none⟩ = (#[Value.int .i64 a.bl, .int .i64 a.lc, .int .i64 a.mr, .int .i64 a.hi, .int .i64 a.cl] : Array Value)[o]? := cell_of_row _ C o _ 28 (0, 0) h.cx
theorem PL.not_cfg (h : PL w F n a) {b : Nat} (hb : kd w b = 28) : ¬ F.has b := by
  rintro (rfl | rfl | rfl | e | e | rfl | rfl | rfl)
  · rw [h.kQ] at hb; cases hb
  · rw [h.k1] at hb; cases hb
  · rw [h.k2] at hb; cases hb
  · rw [h.kv1 e] at hb; cases hb
  · rw [h.kv2 e] at hb; cases hb
  · rw [h.km] at hb; cases hb
  · rw [h.kl] at hb; cases hb
  · rw [h.kn] at hb; cases hb
theorem PL.not_op (h : PL w F n a) {b : Nat} (hb : kd w b = 51) : ¬ F.has b := by
  rintro (rfl | rfl | rfl | e | e | rfl | rfl | rfl)
  · rw [h.kQ] at hb; cases hb
  · rw [h.k1] at hb; cases hb
  · rw [h.k2] at hb; cases hb
  · rw [h.kv1 e] at hb; cases hb
  · rw [h.kv2 e] at hb; cases hb
  · rw [h.km] at hb; cases hb
  · rw [h.kl] at hb; cases hb
  · rw [h.kn] at hb; cases hb
theorem cfg_inj {a b : Ad} (h : cfgA a = cfgA b) : (#[Value.int .i64 a.bl, .int .i64 a.lc, .int .i64 a.mr, .int .i64 a.hi, .int .i64 a.cl] : Array Value) = #[.int .i64 b.bl, .int .i64 b.lc, .int .i64 b.mr, .int .i64 b.hi, .int .i64 b.cl] := by
  injection h
theorem Frm.lt {w : World} {v : Value} {f : List Int} (h : Frm w v f) {g : Nat} (hg : blk v = some g) : g < w.heap.size := by
  rcases h.2 with ⟨rfl, _⟩ | ⟨g', cap, cur, rfl, h1, h2, _⟩
  · cases hg
  · cases hg; exact (Array.getElem?_eq_some_iff.1 h2).1
theorem PL.trim (h : PL w F n a) : PL w { F with G := fun b => F.G b ∧ b < w.heap.size } n a := by
  obtain ⟨m, g1, g2, g3⟩ := h.fm
  exact ⟨h.st, h.l1, h.l2, ⟨m, g1, g2, fun x hx => by obtain ⟨v, a1, a2, a3⟩ := g3 x hx; exact ⟨v, a1, a2, fun g hg => ⟨a3 g hg, a2.lt hg⟩⟩⟩, h.rm, h.ok, h.q12, h.v12, h.mm⟩
theorem FI.step {w6 w7 w8 : World} {F' : Ft} {kd : Int} {xs : List Int} {t k' : Int} (h : FI w w6 Q X C k cf F n a) (hg : Gone w6 w7 F n (a.stS kd xs t k') F') (hp : PL w8 { F' with G := fun b => F'.G b ∧ b < w7.heap.size } (n + 2) (a.stS kd xs t k')) (hx : FX w8 X ((a.stS kd xs t k').next - 1) (a.stS kd xs t k').got) (hk : Kept (· = X) w7 w8) : ∃ F n a, FI w w8 Q X C (k + 1) cf F n a := by
  have hlt6 := (Array.getElem?_eq_some_iff.1 h.cx).1
  have hC7 := (hg.kept.block C hlt6 (h.pl.not_cfg (kd_cells h.cx))).trans h.cx
  have hXC : C ≠ X := fun e => by
    have h1 : w6.heap[X]? = _ := h.fx
    rw [← e, h.cx] at h1
    simp at h1
  refine ⟨{ F' with G := fun b => F'.G b ∧ b < w7.heap.size }, n + 2, a.stS kd xs t k', hp, hg.q.trans h.q, by have := h.nk; omega, ?_, fun b hb => ?_, fun b hb => Nat.lt_of_lt_of_le hb.2 hk.size, hx, h.xw, (st_cfg a kd xs t k').trans h.cfg, ?_, ?_⟩
  · have := st_next a kd xs t k'; have := h.nx; omega
  · rcases hg.new b hb with e | e
    · exact h.up b e
    · exact Nat.le_trans h.below.size e
  · rw [cfg_inj (st_cfg a kd xs t k')]
    exact (hk.block C (Nat.lt_of_lt_of_le hlt6 hg.kept.size) hXC).trans hC7
  · exact hk.into (hg.kept.into h.below (fun b hb hs => by have := h.up b hs; omega) (Nat.le_refl _)) (fun b hb hs => by have := h.xw; omega) (Nat.le_refl _)
end
set_option maxHeartbeats 8000000 in
set_option maxRecDepth 100000 in
theorem fair_any (bl lc mr hi cl : Int) (p : Option Addr) (len cap : Nat) (f : Nat → OpV) (gg : Nat → List Int) (w : World) (hp : ScIn w p len f gg) (hn : len ≤ 9223372036854775807) :
    Calls Try.prog 4 #[cfgV bl lc mr hi cl, .slice p len cap] w fun e w' => e = .returned (.bool true) ∧ Below w.heap.size w w' := by
  have HP : Hid (ScIn w p len f gg) := hp
  clear hp
  go_enter Try.func4, Try.ntmps4
  go_wp2_with fail
  refine (fixed_any _).mono ?_
  rintro e w1 ⟨rfl, hb⟩
  have HB1 : Hid (Below w.heap.size w w1) := below_then (below_alloc w _) hb
  have hC1 : Hid (w1.heap[w.heap.size]? = some (.cells #[.int .i64 bl, .int .i64 lc, .int .i64 mr, .int .i64 hi, .int .i64 cl] 28 (0, 0))) := (hb.block w.heap.size (by simp)).trans (heap_alloc_new w _)
  have cc : ∀ o, w1.cell? ⟨w.heap.size, o, none⟩ = (#[Value.int .i64 bl, .int .i64 lc, .int .i64 mr, .int .i64 hi, .int .i64 cl] : Array Value)[o]? := fun o => cell_of_row _ w.heap.size o _ 28 (0, 0) hC1.out
  have c0 : w1.cell? ⟨w.heap.size, 0, none⟩ = some (.int .i64 bl) := cc 0
  have c1 : w1.cell? ⟨w.heap.size, 1, none⟩ = some (.int .i64 lc) := cc 1
  have c2 : w1.cell? ⟨w.heap.size, 2, none⟩ = some (.int .i64 mr) := cc 2
  have c3 : w1.cell? ⟨w.heap.size, 3, none⟩ = some (.int .i64 hi) := cc 3
  have c4 : w1.cell? ⟨w.heap.size, 4, none⟩ = some (.int .i64 cl) := cc 4
  clear hb cc
  by_cases hM : mayC bl lc mr hi cl
  · go_wp2_with fail
    clear c0 c1 c2 c3 c4
    refine (new_ok _ hM).mono ?_
    rintro e w2 ⟨F0, rfl, h1, h2, h3⟩
    have H2 : Hid (PL w2 F0 0 (newA bl lc mr hi cl) ∧ (∀ b, F0.has b → w1.heap.size ≤ b) ∧ Below w1.heap.size w1 w2) := ⟨h1, h2, h3⟩
    clear h1 h2 h3
    have hs1 : Hid (w.heap.size < w1.heap.size) := (Array.getElem?_eq_some_iff.1 hC1.out).1
    have hI0 : Hid (∃ F n a, FI w (w2.alloc (.cells #[.int .u64 0, .int .u64 0] 49)) F0.Q w2.heap.size w.heap.size 0 (cfgV bl lc mr hi cl) F n a) := by
      have hb2 := H2.out.2.2
      have hG0 : ∀ b, ({ F0 with G := fun _ => False } : Ft).G b → b < (w2.alloc (.cells #[.int .u64 0, .int .u64 0] 49)).heap.size := fun b hb => hb.elim
      have h2 := H2.out.1
      have hpl : PL w2 { F0 with G := fun _ => False } 0 (newA bl lc mr hi cl) := by
        obtain ⟨m, g1, g2, _⟩ := h2.fm
        exact ⟨h2.st, h2.l1, h2.l2, ⟨m, g1, g2, fun x hx => by cases hx⟩, h2.rm, h2.ok, h2.q12, h2.v12, h2.mm⟩
      refine ⟨{ F0 with G := fun _ => False }, 0, newA bl lc mr hi cl, hpl.later (below_alloc _ _), rfl, Nat.zero_le _, Int.le_refl _, fun b hb => ?_, hG0, heap_alloc_new w2 _, ?_, rfl, ?_, ?_⟩
      · have := H2.out.2.1 b hb; have := hs1.out; omega
      · have := hb2.size; have := hs1.out; omega
      · exact ((below_alloc w2 _).block _ (by have := hb2.size; have := hs1.out; omega)).trans ((hb2.block _ hs1.out).trans hC1.out)
      · exact below_then HB1.out (below_then hb2 (below_alloc w2 _))
    have HH : Hid (w.heap.size ≤ w.heap.size) := Nat.le_refl _
    go_wp2
    clear H2 hs1 hC1 HB1 HH
    go_loopw [8] (fun i wr => ∃ k : Nat, k ≤ 80 ∧ k ≤ len ∧ i = .int .i64 k ∧ Hid (∃ F n a, FI w wr F0.Q w2.heap.size w.heap.size k (cfgV bl lc mr hi cl) F n a)) (fun i _ => 80 - (intOf i).toNat)
    case atStart => exact ⟨0, by omega, Nat.zero_le _, rfl, hI0⟩
    case round =>
      clear hI0
      obtain ⟨k, hk1, hk2, rfl, HR⟩ := hrel
      by_cases hk : k < len
      · by_cases hk3 : k < 80
        · have i1 : (k : Int) < (len : Int) := by omega
          have i2 : (k : Int) < 80 := by omega
          obtain ⟨F, n, a, hF⟩ := HR.out
          have HF : Hid (FI w wr F0.Q w2.heap.size w.heap.size k (cfgV bl lc mr hi cl) F n a) := hF
          have hq : Hid (F.Q = F0.Q) := hF.q
          have hcf : Hid (cfgA a = cfgV bl lc mr hi cl) := hF.cfg
          obtain ⟨bb, oo, rfl, hc⟩ := (HP.out.later hF.below).cells (by omega)
          have hx := hc k hk
          have HOk : Hid (OpOk wr (f k) (gg k)) := (HP.out.each k hk).later hF.below
          clear hc hF HR
          generalize gg k = xs at *
          generalize f k = v at *
          obtain ⟨kd, wh, p', m, c, t, k'⟩ := v
          have x0 : wr.cell? ⟨bb, oo + k * 5, none⟩ = some (.int .i64 kd) := hx 0 _ rfl
          have x1 : wr.cell? ⟨bb, oo + k * 5 + 1, none⟩ = some (.int .i64 wh) := hx 1 _ rfl
          have x2 : wr.cell? ⟨bb, oo + k * 5 + 2, none⟩ = some (.slice p' m c) := hx 2 _ rfl
          have x3 : wr.cell? ⟨bb, oo + k * 5 + 3, none⟩ = some (.int .u64 t) := hx 3 _ rfl
          have x4 : wr.cell? ⟨bb, oo + k * 5 + 4, none⟩ = some (.int .i64 k') := hx 4 _ rfl
          clear hx
          go_wp2_with fail
          have F3 : Hid (FI w (wr.alloc (.cells (ocells ⟨kd, wh, p', m, c, t, k'⟩) 51)) F0.Q w2.heap.size w.heap.size k (cfgV bl lc mr hi cl) F n a) := HF.out.later (below_alloc _ _)
          have B3 : Hid ((wr.alloc (.cells (ocells ⟨kd, wh, p', m, c, t, k'⟩) 51)).heap[wr.heap.size]? = some (.cells (ocells ⟨kd, wh, p', m, c, t, k'⟩) 51 (0, 0))) := heap_alloc_new wr _
          have O3 : Hid (OpOk (wr.alloc (.cells (ocells ⟨kd, wh, p', m, c, t, k'⟩) 51)) ⟨kd, wh, p', m, c, t, k'⟩ xs) := HOk.out.later (below_alloc _ _)
          have hnx : a.next ≤ 81 := by have := HF.out.nx; omega
          have hnk : n ≤ 160 := by have := HF.out.nk; omega
          have HO : Hid a.Ok := HF.out.pl.ok
          have u0 := HF.out.pl.ok.used0
          have r0 := HF.out.pl.ok.rsv0
          have rm := HF.out.pl.ok.room
          have l64 := HF.out.pl.ok.may.2.2.2.1
          have hwr : IntKind.i64.wrap (a.used + a.rsv) = a.used + a.rsv := by rw [IntKind.wrap_i64]; omega
          clear x0 x1 x2 x3 x4 HF HOk
          obtain ⟨w3, hw3⟩ : ∃ x, wr.alloc (.cells (ocells ⟨kd, wh, p', m, c, t, k'⟩) 51) = x := ⟨_, rfl⟩
          have HW3 : Hid (_) := hw3
          rw [hw3] at F3 B3 O3 ⊢
          clear hw3
          have T1 : Hid (Calls Try.prog 23 #[qp F0.Q] w3 fun e w' => ∃ q d, e = .returned (.slice q a.told.length d) ∧ B.Made w3 w' q a.told.length d a.told) := by rw [← hq.out]; exact told_at F3.out.pl (by omega) F3.out.g
          refine T1.out.mono ?_
          rintro e w4 ⟨q, d, rfl, hm⟩
          have F4 : Hid (FI w (w4) F0.Q w2.heap.size w.heap.size k (cfgV bl lc mr hi cl) F n a) := F3.out.later hm.below
          have B4 : Hid (w4.heap[wr.heap.size]? = some (.cells (ocells ⟨kd, wh, p', m, c, t, k'⟩) 51 (0, 0)) ∧ OpOk w4 ⟨kd, wh, p', m, c, t, k'⟩ xs ∧ Frm w4 (.slice q a.told.length d) a.told) := ⟨(hm.below.block _ (Array.getElem?_eq_some_iff.1 B3.out).1).trans B3.out, O3.out.later hm.below, Frm.of_made hm⟩
          clear hm F3 B3 O3 T1 HW3
          have T2 : Hid (Calls Try.prog 18 #[qp F0.Q] w4 fun e w' => e = .returned (.int .i64 a.used) ∧ Below w4.heap.size w4 w') := by rw [← hq.out]; exact same_below' (used_at F4.out.pl)
          go_wp2_with fail
          refine T2.out.mono ?_
          rintro e w5 ⟨rfl, hb⟩
          have F5 : Hid (FI w (w5) F0.Q w2.heap.size w.heap.size k (cfgV bl lc mr hi cl) F n a) := F4.out.later hb
          have B5 : Hid (w5.heap[wr.heap.size]? = some (.cells (ocells ⟨kd, wh, p', m, c, t, k'⟩) 51 (0, 0)) ∧ OpOk w5 ⟨kd, wh, p', m, c, t, k'⟩ xs ∧ Frm w5 (.slice q a.told.length d) a.told) := ⟨(hb.block _ (Array.getElem?_eq_some_iff.1 B4.out.1).1).trans B4.out.1, B4.out.2.1.later hb, B4.out.2.2.later hb⟩
          clear hb F4 B4 T2
          have T3 : Hid (Calls Try.prog 14 #[qp F0.Q] w5 fun e w' => e = .returned (.int .i64 a.rsv) ∧ Below w5.heap.size w5 w') := by rw [← hq.out]; exact same_below' (reserved_at F5.out.pl)
          go_wp2_with fail
          refine T3.out.mono ?_
          rintro e w6 ⟨rfl, hb⟩
          have F6 : Hid (FI w (w6) F0.Q w2.heap.size w.heap.size k (cfgV bl lc mr hi cl) F n a) := F5.out.later hb
          have B6 : Hid (w6.heap[wr.heap.size]? = some (.cells (ocells ⟨kd, wh, p', m, c, t, k'⟩) 51 (0, 0)) ∧ OpOk w6 ⟨kd, wh, p', m, c, t, k'⟩ xs ∧ Frm w6 (.slice q a.told.length d) a.told) := ⟨(hb.block _ (Array.getElem?_eq_some_iff.1 B5.out.1).1).trans B5.out.1, B5.out.2.1.later hb, B5.out.2.2.later hb⟩
          clear hb F5 B5 T3
          have yc : ∀ o', w6.cell? ⟨wr.heap.size, o', none⟩ = (ocells ⟨kd, wh, p', m, c, t, k'⟩)[o']? := fun o' => cell_of_row _ wr.heap.size o' _ 51 (0, 0) B6.out.1
          have y0 : w6.cell? ⟨wr.heap.size, 0, none⟩ = some (.int .i64 kd) := yc 0
          have y1 : w6.cell? ⟨wr.heap.size, 1, none⟩ = some (.int .i64 wh) := yc 1
          have y2 : w6.cell? ⟨wr.heap.size, 2, none⟩ = some (.slice p' m c) := yc 2
          have y3 : w6.cell? ⟨wr.heap.size, 3, none⟩ = some (.int .u64 t) := yc 3
          have y4 : w6.cell? ⟨wr.heap.size, 4, none⟩ = some (.int .i64 k') := yc 4
          have T4 : Hid (Calls Try.prog 24 #[qp F0.Q, .agg (ocells ⟨kd, wh, p', m, c, t, k'⟩)] w6 fun e w' => ∃ F', e = .returned (.tuple #[.int .i64 (a.stE kd xs t k'), .int .u64 (a.stT kd xs)]) ∧ Gone w6 w' F n (a.stS kd xs t k') F') := by rw [← hq.out]; exact does_at F6.out.pl (by omega) (by omega) F6.out.g B6.out.2.1
          clear yc
          go_wp2_with fail
          clear y0 y1 y2 y3 y4
          refine T4.out.mono ?_
          rintro e w7 ⟨F', rfl, hg⟩
          have G7 : Hid (Gone w6 w7 F n (a.stS kd xs t k') F') := hg
          have hltB := (Array.getElem?_eq_some_iff.1 B6.out.1).1
          have B7 : Hid (w7.heap[wr.heap.size]? = some (.cells (ocells ⟨kd, wh, p', m, c, t, k'⟩) 51 (0, 0)) ∧ Frm w7 (.slice q a.told.length d) a.told ∧ FX w7 w2.heap.size (a.next - 1) a.got ∧ w7.heap[w.heap.size]? = some (.cells #[.int .i64 bl, .int .i64 lc, .int .i64 mr, .int .i64 hi, .int .i64 cl] 28 (0, 0))) := by
            refine ⟨(hg.kept.block _ hltB (F6.out.pl.not_op (kd_cells B6.out.1))).trans B6.out.1, B6.out.2.2.far hg.kept (fun g _ hg' => F6.out.pl.noInts hg'), (hg.kept.block _ (Array.getElem?_eq_some_iff.1 F6.out.fx).1 (F6.out.pl.not_fair (kd_cells F6.out.fx))).trans F6.out.fx, ?_⟩
            have h1 := (hg.kept.block _ (Array.getElem?_eq_some_iff.1 F6.out.cx).1 (F6.out.pl.not_cfg (kd_cells F6.out.cx))).trans F6.out.cx
            have h2 : (#[Value.int .i64 a.bl, .int .i64 a.lc, .int .i64 a.mr, .int .i64 a.hi, .int .i64 a.cl] : Array Value) = #[.int .i64 bl, .int .i64 lc, .int .i64 mr, .int .i64 hi, .int .i64 cl] := by have := hcf.out; injection this
            rw [h2] at h1
            exact h1
          clear hg hltB T4
          have yc : ∀ o', w7.cell? ⟨wr.heap.size, o', none⟩ = (ocells ⟨kd, wh, p', m, c, t, k'⟩)[o']? := fun o' => cell_of_row _ wr.heap.size o' _ 51 (0, 0) B7.out.1
          have zc : ∀ o', w7.cell? ⟨w.heap.size, o', none⟩ = (#[Value.int .i64 bl, .int .i64 lc, .int .i64 mr, .int .i64 hi, .int .i64 cl] : Array Value)[o']? := fun o' => cell_of_row _ w.heap.size o' _ 28 (0, 0) B7.out.2.2.2
          have y0 : w7.cell? ⟨wr.heap.size, 0, none⟩ = some (.int .i64 kd) := yc 0
          have y1 : w7.cell? ⟨wr.heap.size, 1, none⟩ = some (.int .i64 wh) := yc 1
          have y2 : w7.cell? ⟨wr.heap.size, 2, none⟩ = some (.slice p' m c) := yc 2
          have y3 : w7.cell? ⟨wr.heap.size, 3, none⟩ = some (.int .u64 t) := yc 3
          have y4 : w7.cell? ⟨wr.heap.size, 4, none⟩ = some (.int .i64 k') := yc 4
          have z0 : w7.cell? ⟨w.heap.size, 0, none⟩ = some (.int .i64 bl) := zc 0
          have z1 : w7.cell? ⟨w.heap.size, 1, none⟩ = some (.int .i64 lc) := zc 1
          have z2 : w7.cell? ⟨w.heap.size, 2, none⟩ = some (.int .i64 mr) := zc 2
          have z3 : w7.cell? ⟨w.heap.size, 3, none⟩ = some (.int .i64 hi) := zc 3
          have z4 : w7.cell? ⟨w.heap.size, 4, none⟩ = some (.int .i64 cl) := zc 4
          have T5 : Hid (Calls Try.prog 25 #[.pointer (some ⟨w2.heap.size, 0, none⟩), cfgV bl lc mr hi cl, qp F0.Q, .agg (ocells ⟨kd, wh, p', m, c, t, k'⟩), .int .i64 (a.stE kd xs t k'), .int .u64 (a.stT kd xs), .slice q a.told.length d, .int .i64 (a.used + a.rsv)] w7 fun e w' => e = .returned (.bool true) ∧ PL w' { F' with G := fun b => F'.G b ∧ b < w7.heap.size } (n + 2) (a.stS kd xs t k') ∧ FX w' w2.heap.size ((a.stS kd xs t k').next - 1) (a.stS kd xs t k').got ∧ Kept (· = w2.heap.size) w7 w') := by
            rw [← hq.out, ← G7.out.q, ← hcf.out]
            obtain ⟨q', d', e1, hI, _⟩ := B7.out.2.1.read
            simp only [Value.slice.injEq] at e1
            obtain ⟨rfl, _, rfl⟩ := e1
            have hnn := st_next a kd xs t k'
            exact sees_at (F := { F' with G := fun b => F'.G b ∧ b < w7.heap.size }) (o := ⟨kd, wh, p', m, c, t, k'⟩) HO.out rfl G7.out.pl.trim (by omega) (fun g hg => hg.2) B7.out.2.2.1 hI rfl
          clear yc zc
          go_wp2_with fail
          clear y0 y1 y2 y3 y4 z0 z1 z2 z3 z4
          refine T5.out.mono ?_
          rintro e w8 ⟨rfl, g1, g2, g3⟩
          have FE : Hid (∃ F n a, FI w w8 F0.Q w2.heap.size w.heap.size (k + 1) (cfgV bl lc mr hi cl) F n a) := F6.out.step G7.out g1 g2 g3
          clear g1 g2 g3 T5 B7 G7 F6 B6 HO
          go_wp2
          go_roundw
          case rel => exact ⟨k + 1, by omega, by omega, by go_num, FE⟩
          case measure => simp [intOf]; omega
        · have i1 : (k : Int) < (len : Int) := by omega
          have i2 : ¬ (k : Int) < 80 := by omega
          obtain ⟨F, n, a, hF⟩ := HR.out
          have HB : Hid (Below w.heap.size w wr) := hF.below
          clear hF HR
          go_wp2
          go_ret
          exact ⟨rfl, HB.out⟩
      · have i1 : ¬ (k : Int) < (len : Int) := by omega
        obtain ⟨F, n, a, hF⟩ := HR.out
        have HB : Hid (Below w.heap.size w wr) := hF.below
        clear hF HR
        go_wp2
        go_ret
        exact ⟨rfl, HB.out⟩
  · go_wp2_with fail
    clear c0 c1 c2 c3 c4
    refine (new_bad _ hM).mono ?_
    rintro e w2 ⟨rfl, hb⟩
    have HB2 : Hid (Below w.heap.size w w2) := below_then HB1.out hb
    clear hb
    go_wp2
    go_ret
    exact ⟨rfl, HB2.out⟩
end Go.Proofs.Ytnbegddpgmejnaa
