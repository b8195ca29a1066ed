/-
  Layer 13: sees.
-/
import Derived.Test.YtnbegddpgmejnaaFb
namespace Go.Proofs.Ytnbegddpgmejnaa
open Go.RowKit


section
variable {w0 w w' : World} {F F' : Ft} {n : Nat} {a a' : Ad} {o : OpV} {xs : List Int}
theorem PL.not_fair (h : PL w F n a) {b : Nat} (hb : kd w b = 49) : ¬ F.has b := by
  rintro (rfl | rfl | rfl | e | e | rfl | rfl | rfl)
  · rw [h.kQ] at hb; cases hb
  · rw [h.k1] at hb; cases hb
  · rw [h.k2] at hb; cases hb
  · rw [h.kv1 e] at hb; cases hb
  · rw [h.kv2 e] at hb; cases hb
  · rw [h.km] at hb; cases hb
  · rw [h.kl] at hb; cases hb
  · rw [h.kn] at hb; cases hb
/-- the two numbers that are kept -/
def FX (w : World) (X : Nat) (b g : Int) : Prop := w.heap[X]? = some (.cells #[.int .u64 b, .int .u64 g] 49 (0, 0))
theorem FX.later {X : Nat} {b g : Int} (h : FX w X b g) (hb : Below w.heap.size w w') : FX w' X b g := (hb.block X (Array.getElem?_eq_some_iff.1 h).1).trans h
theorem FX.c0 {X : Nat} {b g : Int} (h : FX w X b g) : w.cell? ⟨X, 0, none⟩ = some (.int .u64 b) := by rw [cell_of_row _ X 0 _ 49 (0, 0) h]; rfl
theorem FX.c1 {X : Nat} {b g : Int} (h : FX w X b g) : w.cell? ⟨X, 1, none⟩ = some (.int .u64 g) := by rw [cell_of_row _ X 1 _ 49 (0, 0) h]; rfl
theorem FX.free {X : Nat} {b g : Int} (h : FX w X b g) (k : Nat) : w.frozen? ⟨X, k, none⟩ = false := by
  have h' : w.heap[X]? = some (.cells #[.int .u64 b, .int .u64 g] 49 (0, 0)) := h
  simp [World.frozen?, h']
theorem FX.set0 {X : Nat} {b g : Int} (h : FX w X b g) (t : Int) : FX (w.setCell ⟨X, 0, none⟩ (.int .u64 t)) X t g := by unfold FX; rw [L.st_set 0 _ h]; rfl
theorem FX.set1 {X : Nat} {b g : Int} (h : FX w X b g) (t : Int) : FX (w.setCell ⟨X, 1, none⟩ (.int .u64 t)) X b t := by unfold FX; rw [L.st_set 1 _ h]; rfl
theorem PL.fset (h : PL w F n a) {X : Nat} {b g : Int} (hX : FX w X b g) (o : Nat) (v : Value) : PL (w.setCell ⟨X, o, none⟩ v) F n a := by
  refine h.far (Kept.setCell X o v) (fun b hb e => ?_) (fun g _ hg e => ?_)
  · subst e; exact h.not_fair (kd_cells hX) hb
  · subst e; rw [kd_cells hX] at hg; cases hg
theorem rise_get2 {xs : List Int} (h : xs.Pairwise (· < ·)) {k : Nat} (h1 : 1 ≤ k) (hk : k < xs.length) : xs.getD (k - 1) 0 < xs.getD k 0 := by
  have := List.pairwise_iff_getElem.1 h (k - 1) k (by omega) hk (by omega)
  rw [List.getD, List.getD, List.getElem?_eq_getElem (by omega), List.getElem?_eq_getElem hk]
  simpa using this
theorem fits_empty {a : Ad} (h : a.Ok) (hI : a.I = []) (hu : ¬ 0 < a.used) (hW : a.W ≠ []) : a.fits = true := by
  cases hc : a.W with
  | nil => exact absurd hc hW
  | cons x r =>
    have h1 := h.wform x (by rw [hc]; exact List.mem_cons_self ..)
    have h2 := h.may.2.2.2.2.2.2.2.1
    have h3 := h.used0
    have h4 : a.rsv = 0 := by simp [Ad.rsv, hI, lefts, L.total]
    simp only [Ad.fits, hc, decide_eq_true_eq]
    omega
abbrev cfgA (a : Ad) : Value := cfgV a.bl a.lc a.mr a.hi a.cl
set_option maxHeartbeats 4000000 in
set_option maxRecDepth 100000 in
theorem sees_bad {X : Nat} {b g E T sm : Int} {pw : Option Addr} {mw cw : Nat} {zs : List Int} (h : PL w F n a) (hN : a.next ≤ 1000) (hG : ∀ g, F.G g → g < w.heap.size) (hX : FX w X b g) (hE : E ≠ 0) (hz : B.IIn w pw mw zs) (hzz : zs = a.told) :
    Calls Try.prog 25 #[.pointer (some ⟨X, 0, none⟩), cfgA a, qp F.Q, .agg (ocells o), .int .i64 E, .int .u64 T, .slice pw mw cw, .int .i64 sm] w fun e w' => e = .returned (.bool true) ∧ PL w' F n a ∧ FX w' X b g ∧ Below w.heap.size w w' := by
  have hEb : (E != 0) = true := by simpa using hE
  have hb1 : Hid (Below w.heap.size w ((w.alloc (cfgO a.bl a.lc a.mr a.hi a.cl)).alloc (.cells (ocells o) 51))) := below_then (below_alloc w _) (below_alloc _ _)
  have H1 : Hid (PL ((w.alloc (cfgO a.bl a.lc a.mr a.hi a.cl)).alloc (.cells (ocells o) 51)) F n a) := h.later hb1.out
  have HG : Hid (∀ g, F.G g → g < ((w.alloc (cfgO a.bl a.lc a.mr a.hi a.cl)).alloc (.cells (ocells o) 51)).heap.size) := fun g hg => Nat.lt_of_lt_of_le (hG g hg) hb1.out.size
  have HX : Hid (FX w X b g) := hX
  have HP : Hid (PL w F n a) := h
  have HZ : Hid (B.IIn w pw mw zs ∧ zs = a.told) := ⟨hz, hzz⟩
  have hlen : Hid (a.told.length ≤ 100000) := by
    show _ ≤ _
    have h1 := h.ok.wlen; have h2 := h.ok.ilen; have h3 := h.ok.flen
    have h4 : (if a.isW then [(-1 : Int)] else []).length ≤ 1 := by split <;> simp
    simp only [Ad.told, List.length_append, flat_len, wt, List.length_map, List.length_cons, List.length_nil]
    omega
  obtain ⟨kd, wh, p, m, c, t, k⟩ := o
  clear h hG hX hz hzz hE
  go_enter Try.func25, Try.ntmps25
  go_wp2_with (first
    | (go_at_call 23; refine (told_at H1.out hN HG.out).mono ?_; rintro e w2 ⟨q, d, rfl, hm⟩; have HM : Hid (B.IIn w2 q a.told.length a.told ∧ Below w.heap.size w w2) := ⟨hm.read, below_then hb1.out hm.below⟩; clear hm)
    | (go_at_call 48; refine (alike_is _ _ _ _ _ _ _ _ w2 HM.out.1 (HZ.out.1.later HM.out.2) (by have := hlen.out; omega)).mono ?_; rw [HZ.out.2, decide_eq_true rfl]; rintro e w3 ⟨rfl, nq, rfl⟩))
  go_ret
  have hb3 := below_then HM.out.2 (below_drawn (B := w2.heap.size) (w := w2) nq)
  exact ⟨rfl, HP.out.later hb3, HX.out.later hb3, hb3⟩
set_option maxHeartbeats 4000000 in
set_option maxRecDepth 100000 in
theorem sees_begin {X : Nat} {b g T sm : Int} {pw : Option Addr} {mw cw : Nat} (h : PL w F n a) (hN : a.next ≤ 1000) (hG : ∀ g, F.G g → g < w.heap.size) (hX : FX w X b g) (hk : o.kd = 1) (hT : T = b + 1) (h0 : 0 ≤ b) (h1 : b ≤ 1000) :
    Calls Try.prog 25 #[.pointer (some ⟨X, 0, none⟩), cfgA a, qp F.Q, .agg (ocells o), .int .i64 0, .int .u64 T, .slice pw mw cw, .int .i64 sm] w fun e w' => e = .returned (.bool true) ∧ PL w' F n a ∧ FX w' X T g ∧ Kept (· = X) w w' := by
  have hb1 : Hid (Below w.heap.size w ((w.alloc (cfgO a.bl a.lc a.mr a.hi a.cl)).alloc (.cells (ocells o) 51))) := below_then (below_alloc w _) (below_alloc _ _)
  have H1 : Hid (PL ((w.alloc (cfgO a.bl a.lc a.mr a.hi a.cl)).alloc (.cells (ocells o) 51)) F n a) := h.later hb1.out
  have HG : Hid (∀ g, F.G g → g < ((w.alloc (cfgO a.bl a.lc a.mr a.hi a.cl)).alloc (.cells (ocells o) 51)).heap.size) := fun g hg => Nat.lt_of_lt_of_le (hG g hg) hb1.out.size
  have X1 : Hid (FX ((w.alloc (cfgO a.bl a.lc a.mr a.hi a.cl)).alloc (.cells (ocells o) 51)) X b g) := hX.later hb1.out
  have HO : Hid a.Ok := h.ok
  have u0 := h.ok.used0
  have r0 := h.ok.rsv0
  have rm := h.ok.room
  have l64 := h.ok.may.2.2.2.1
  have hwl : (wt a.W).length ≤ 1000 := by have := h.ok.wlen; simp only [wt, List.length_map]; omega
  have hwW : Hid ((wt a.W).length = a.W.length) := by show _ = _; simp [wt]
  have hil2 : (it a.I).length = a.I.length := by simp [it]
  have hcc : ∀ o', ((w.alloc (cfgO a.bl a.lc a.mr a.hi a.cl)).alloc (.cells (ocells o) 51)).cell? ⟨w.heap.size, o', none⟩ = (#[Value.int .i64 a.bl, .int .i64 a.lc, .int .i64 a.mr, .int .i64 a.hi, .int .i64 a.cl] : Array Value)[o']? := fun o' => ((below_alloc (w.alloc (cfgO a.bl a.lc a.mr a.hi a.cl)) (.cells (ocells o) 51)).cell (p := ⟨w.heap.size, o', none⟩) (by simp)).trans (cell_of_row _ w.heap.size o' _ 28 (0, 0) (heap_alloc_new w _))
  have hoc : ∀ o', ((w.alloc (cfgO a.bl a.lc a.mr a.hi a.cl)).alloc (.cells (ocells o) 51)).cell? ⟨w.heap.size + 1, o', none⟩ = (ocells o)[o']? := fun o' => by
    have := cell_of_row _ (w.alloc (cfgO a.bl a.lc a.mr a.hi a.cl)).heap.size o' _ 51 (0, 0) (heap_alloc_new (w.alloc (cfgO a.bl a.lc a.mr a.hi a.cl)) (.cells (ocells o) 51))
    rw [World.size_alloc] at this
    exact this
  have C1 : Hid (((w.alloc (cfgO a.bl a.lc a.mr a.hi a.cl)).alloc (.cells (ocells o) 51)).cell? ⟨w.heap.size, 1, none⟩ = some (.int .i64 a.lc)) := hcc 1
  have C0 : Hid (((w.alloc (cfgO a.bl a.lc a.mr a.hi a.cl)).alloc (.cells (ocells o) 51)).cell? ⟨w.heap.size + 1, 0, none⟩ = some (.int .i64 o.kd)) := hoc 0
  have hsz1 : Hid (((w.alloc (cfgO a.bl a.lc a.mr a.hi a.cl)).alloc (.cells (ocells o) 51)).heap.size = w.heap.size + 2) := by show _ = _; simp
  have hw1 : IntKind.i64.wrap (a.used + a.rsv) = a.used + a.rsv := by rw [IntKind.wrap_i64]; omega
  have hw3 : IntKind.u64.wrap (b + 1) = T := by rw [IntKind.wrap_u64, hT]; omega
  clear hT
  clear h hG hX hcc hoc
  obtain ⟨kd, wh, p, m, c, t, k⟩ := o
  simp only at *
  subst hk
  go_enter Try.func25, Try.ntmps25
  go_wp2_with fail
  refine (told_at H1.out hN HG.out).mono ?_
  rintro e w2 ⟨q, d, rfl, hm⟩
  have HB2 : Hid (Below _ _ w2) := hm.below
  have H2 : Hid (PL w2 F n a) := H1.out.later hm.below
  clear hm
  go_wp2_with fail
  refine (same_below' (used_at H2.out)).mono ?_
  rintro e w3 ⟨rfl, hb⟩
  have HB3 : Hid (Below _ _ w3) := below_then HB2.out hb
  have H3 : Hid (PL w3 F n a) := H2.out.later hb
  clear hb
  go_wp2_with fail
  refine (same_below' (reserved_at H3.out)).mono ?_
  rintro e w4 ⟨rfl, hb⟩
  have HB4 : Hid (Below _ _ w4) := below_then HB3.out hb
  have H4 : Hid (PL w4 F n a) := H3.out.later hb
  have X4 : Hid (FX w4 X b g) := X1.out.later HB4.out
  have c1 : w4.cell? ⟨w.heap.size, 1, none⟩ = some (.int .i64 a.lc) := (HB4.out.cell (p := ⟨w.heap.size, 1, none⟩) (by simp only []; rw [hsz1.out]; omega)).trans C1.out
  have c0 : w4.cell? ⟨w.heap.size + 1, 0, none⟩ = some (.int .i64 1) := (HB4.out.cell (p := ⟨w.heap.size + 1, 0, none⟩) (by simp only []; rw [hsz1.out]; omega)).trans C0.out
  have hb04 : Hid (Below w.heap.size w w4) := below_then hb1.out HB4.out
  clear hb HB2 HB3 H1 H2 H3
  have x0 := X4.out.c0
  have x1 := X4.out.c1
  have xf := X4.out.free 0
  go_wp2_with fail
  clear x0 x1 xf
  have H5 : Hid (PL (w4.setCell ⟨X, 0, none⟩ (.int .u64 T)) F n a ∧ FX (w4.setCell ⟨X, 0, none⟩ (.int .u64 T)) X T g ∧ Kept (· = X) w (w4.setCell ⟨X, 0, none⟩ (.int .u64 T))) := ⟨H4.out.fset X4.out 0 _, X4.out.set0 T, (Kept.of_below (· = X) hb04.out).trans (Kept.setCell X 0 _) (fun _ _ e => e)⟩
  obtain ⟨w5, hw5⟩ : ∃ x, w4.setCell ⟨X, 0, none⟩ (.int .u64 T) = x := ⟨_, rfl⟩
  rw [hw5] at H5 ⊢
  clear hw5
  clear c0 c1 C0 C1 X4 H4
  refine (waiting_at H5.out.1 hN).mono ?_
  rintro e w6 ⟨vw, rfl, hm⟩
  obtain ⟨pw', cw', rfl, -⟩ := hm.read
  have H6 : Hid (PL w6 F n a ∧ Below w5.heap.size w5 w6) := ⟨H5.out.1.later hm.below, hm.below⟩
  have R6 : Hid (Row w6 (.slice pw' (wt a.W).length cw') (wt a.W)) := (Row.own hm.own).1
  clear hm
  go_wp2_with fail
  refine (in_at H6.out.1 hN).mono ?_
  rintro e w7 ⟨vi, rfl, hm⟩
  obtain ⟨pi, ci, rfl, -⟩ := hm.read
  rw [hil2]
  have H7 : Hid (PL w7 F n a ∧ Below w5.heap.size w5 w7) := ⟨H6.out.1.later hm.below, below_then H6.out.2 hm.below⟩
  have R7 : Hid (Row w7 (.slice pw' (wt a.W).length cw') (wt a.W)) := R6.out.later hm.below
  clear hm R6 H6 hil2
  go_wp2
  go_loopw [22] (fun i wr => ∃ k : Nat, 1 ≤ k ∧ k ≤ (wt a.W).length + 1 ∧ i = .int .i64 k ∧ Hid (∃ m, wr = w7.drewN m)) (fun i _ => (wt a.W).length + 1 - (intOf i).toNat)
  case atStart => exact ⟨1, Nat.le_refl _, by omega, rfl, 0, rfl⟩
  case round =>
    obtain ⟨k, hk1, hk, rfl, HR⟩ := hrel
    have HBr : Hid (Below w7.heap.size w7 wr) := by
      obtain ⟨m, e⟩ := HR.out
      rw [e]
      exact below_drawn m
    by_cases hlt : k < (wt a.W).length
    · have i1 : (k : Int) < ((wt a.W).length : Int) := by omega
      obtain ⟨_, _, e0, hU, _⟩ := (R7.out.later HBr.out).form
      simp only [Value.slice.injEq] at e0
      obtain ⟨rfl, h9, rfl⟩ := e0
      obtain ⟨b', o', rfl, hcx⟩ := hU.cells (by omega)
      have h1 := hcx k hlt
      have h2 := hcx (k - 1) (by omega)
      have hk2 : ((k - 1 : Nat) : Int) = (k : Int) - 1 := by omega
      have hr := rise_get2 HO.out.wrise hk1 hlt
      have hw2 : IntKind.i64.wrap ((k : Int) - 1) = ((k - 1 : Nat) : Int) := by rw [IntKind.wrap_i64]; omega
      have i2 : ((k - 1 : Nat) : Int) < ((wt a.W).length : Int) := by omega
      clear hcx hU h9
      generalize (wt a.W).getD k 0 = x at *
      generalize (wt a.W).getD (k - 1) 0 = y at *
      have hd : decide (x ≤ y) = false := decide_eq_false (by omega)
      generalize hkk : k - 1 = k0 at *
      clear hk2
      have HK : Hid (k - 1 = k0) := hkk
      clear hkk
      go_wp2
      go_quiet (fail)
      go_wp2
      go_roundw
      case rel =>
        obtain ⟨m, e⟩ := HR.out
        exact ⟨k + 1, by omega, by omega, by go_num, m + nq, by rw [e, World.drewN_drewN]⟩
      case measure => simp [intOf]; omega
    · have hkl : ¬ (k : Int) < ((wt a.W).length : Int) := by omega
      have H8 : Hid (PL wr F n a) := H7.out.1.later HBr.out
      have HZ : Hid (PL wr F n a ∧ FX wr X T g ∧ Kept (· = X) w wr) := ⟨H8.out, H5.out.2.1.later (below_then H7.out.2 HBr.out), H5.out.2.2.trans (Kept.of_below (fun _ => False) (below_then H7.out.2 HBr.out)) (fun _ _ e => e.elim)⟩
      by_cases hI : 0 < a.I.length
      · have i3 : (0 : Int) < (a.I.length : Int) := by omega
        go_wp2
        go_ret
        exact ⟨rfl, HZ.out⟩
      · have i3 : ¬ (0 : Int) < (a.I.length : Int) := by omega
        by_cases hu : 0 < a.used
        · go_wp2
          go_ret
          exact ⟨rfl, HZ.out⟩
        · by_cases hW : (wt a.W).length = 0
          · have i4 : (((wt a.W).length : Int) == 0) = true := by simp [hW]
            go_wp2
            go_ret
            exact ⟨rfl, HZ.out⟩
          · have i4 : (((wt a.W).length : Int) == 0) = false := by rw [beq_eq_false_iff_ne]; omega
            have HFt : Hid (a.fits = true) := fits_empty HO.out (List.eq_nil_of_length_eq_zero (by omega)) hu (fun e => hW (by rw [hwW.out, e]; rfl))
            clear hW
            go_wp2_with (go_at_call 12; refine (fits_at H8.out hN).mono ?_; rw [HFt.out]; rintro e w9 ⟨rfl, hb⟩)
            go_ret
            exact ⟨rfl, HZ.out.1.later hb, HZ.out.2.1.later hb, HZ.out.2.2.trans (Kept.of_below (fun _ => False) hb) (fun _ _ e => e.elim)⟩
set_option maxHeartbeats 4000000 in
set_option maxRecDepth 100000 in
theorem sees_enter {X : Nat} {b g T sm : Int} {pw : Option Addr} {mw cw : Nat} (h : PL w F n a) (hN : a.next ≤ 1000) (hG : ∀ g, F.G g → g < w.heap.size) (hX : FX w X b g) (hk : o.kd = 2) (hT1 : g < T) (hT2 : T ≤ b) :
    Calls Try.prog 25 #[.pointer (some ⟨X, 0, none⟩), cfgA a, qp F.Q, .agg (ocells o), .int .i64 0, .int .u64 T, .slice pw mw cw, .int .i64 sm] w fun e w' => e = .returned (.bool true) ∧ PL w' F n a ∧ FX w' X b T ∧ Kept (· = X) w w' := by
  have hb1 : Hid (Below w.heap.size w ((w.alloc (cfgO a.bl a.lc a.mr a.hi a.cl)).alloc (.cells (ocells o) 51))) := below_then (below_alloc w _) (below_alloc _ _)
  have H1 : Hid (PL ((w.alloc (cfgO a.bl a.lc a.mr a.hi a.cl)).alloc (.cells (ocells o) 51)) F n a) := h.later hb1.out
  have HG : Hid (∀ g, F.G g → g < ((w.alloc (cfgO a.bl a.lc a.mr a.hi a.cl)).alloc (.cells (ocells o) 51)).heap.size) := fun g hg => Nat.lt_of_lt_of_le (hG g hg) hb1.out.size
  have X1 : Hid (FX ((w.alloc (cfgO a.bl a.lc a.mr a.hi a.cl)).alloc (.cells (ocells o) 51)) X b g) := hX.later hb1.out
  have HO : Hid a.Ok := h.ok
  have u0 := h.ok.used0
  have r0 := h.ok.rsv0
  have rm := h.ok.room
  have l64 := h.ok.may.2.2.2.1
  have hwl : (wt a.W).length ≤ 1000 := by have := h.ok.wlen; simp only [wt, List.length_map]; omega
  have hwW : Hid ((wt a.W).length = a.W.length) := by show _ = _; simp [wt]
  have hil2 : (it a.I).length = a.I.length := by simp [it]
  have hcc : ∀ o', ((w.alloc (cfgO a.bl a.lc a.mr a.hi a.cl)).alloc (.cells (ocells o) 51)).cell? ⟨w.heap.size, o', none⟩ = (#[Value.int .i64 a.bl, .int .i64 a.lc, .int .i64 a.mr, .int .i64 a.hi, .int .i64 a.cl] : Array Value)[o']? := fun o' => ((below_alloc (w.alloc (cfgO a.bl a.lc a.mr a.hi a.cl)) (.cells (ocells o) 51)).cell (p := ⟨w.heap.size, o', none⟩) (by simp)).trans (cell_of_row _ w.heap.size o' _ 28 (0, 0) (heap_alloc_new w _))
  have hoc : ∀ o', ((w.alloc (cfgO a.bl a.lc a.mr a.hi a.cl)).alloc (.cells (ocells o) 51)).cell? ⟨w.heap.size + 1, o', none⟩ = (ocells o)[o']? := fun o' => by
    have := cell_of_row _ (w.alloc (cfgO a.bl a.lc a.mr a.hi a.cl)).heap.size o' _ 51 (0, 0) (heap_alloc_new (w.alloc (cfgO a.bl a.lc a.mr a.hi a.cl)) (.cells (ocells o) 51))
    rw [World.size_alloc] at this
    exact this
  have C1 : Hid (((w.alloc (cfgO a.bl a.lc a.mr a.hi a.cl)).alloc (.cells (ocells o) 51)).cell? ⟨w.heap.size, 1, none⟩ = some (.int .i64 a.lc)) := hcc 1
  have C0 : Hid (((w.alloc (cfgO a.bl a.lc a.mr a.hi a.cl)).alloc (.cells (ocells o) 51)).cell? ⟨w.heap.size + 1, 0, none⟩ = some (.int .i64 o.kd)) := hoc 0
  have hsz1 : Hid (((w.alloc (cfgO a.bl a.lc a.mr a.hi a.cl)).alloc (.cells (ocells o) 51)).heap.size = w.heap.size + 2) := by show _ = _; simp
  have hw1 : IntKind.i64.wrap (a.used + a.rsv) = a.used + a.rsv := by rw [IntKind.wrap_i64]; omega
  clear h hG hX hcc hoc
  obtain ⟨kd, wh, p, m, c, t, k⟩ := o
  simp only at *
  subst hk
  go_enter Try.func25, Try.ntmps25
  go_wp2_with fail
  refine (told_at H1.out hN HG.out).mono ?_
  rintro e w2 ⟨q, d, rfl, hm⟩
  have HB2 : Hid (Below _ _ w2) := hm.below
  have H2 : Hid (PL w2 F n a) := H1.out.later hm.below
  clear hm
  go_wp2_with fail
  refine (same_below' (used_at H2.out)).mono ?_
  rintro e w3 ⟨rfl, hb⟩
  have HB3 : Hid (Below _ _ w3) := below_then HB2.out hb
  have H3 : Hid (PL w3 F n a) := H2.out.later hb
  clear hb
  go_wp2_with fail
  refine (same_below' (reserved_at H3.out)).mono ?_
  rintro e w4 ⟨rfl, hb⟩
  have HB4 : Hid (Below _ _ w4) := below_then HB3.out hb
  have H4 : Hid (PL w4 F n a) := H3.out.later hb
  have X4 : Hid (FX w4 X b g) := X1.out.later HB4.out
  have c1 : w4.cell? ⟨w.heap.size, 1, none⟩ = some (.int .i64 a.lc) := (HB4.out.cell (p := ⟨w.heap.size, 1, none⟩) (by simp only []; rw [hsz1.out]; omega)).trans C1.out
  have c0 : w4.cell? ⟨w.heap.size + 1, 0, none⟩ = some (.int .i64 2) := (HB4.out.cell (p := ⟨w.heap.size + 1, 0, none⟩) (by simp only []; rw [hsz1.out]; omega)).trans C0.out
  have hb04 : Hid (Below w.heap.size w w4) := below_then hb1.out HB4.out
  clear hb HB2 HB3 H1 H2 H3
  have x0 := X4.out.c0
  have x1 := X4.out.c1
  have xf := X4.out.free 1
  go_wp2_with fail
  clear x0 x1 xf
  have H5 : Hid (PL (w4.setCell ⟨X, 1, none⟩ (.int .u64 T)) F n a ∧ FX (w4.setCell ⟨X, 1, none⟩ (.int .u64 T)) X b T ∧ Kept (· = X) w (w4.setCell ⟨X, 1, none⟩ (.int .u64 T))) := ⟨H4.out.fset X4.out 1 _, X4.out.set1 T, (Kept.of_below (· = X) hb04.out).trans (Kept.setCell X 1 _) (fun _ _ e => e)⟩
  obtain ⟨w5, hw5⟩ : ∃ x, w4.setCell ⟨X, 1, none⟩ (.int .u64 T) = x := ⟨_, rfl⟩
  rw [hw5] at H5 ⊢
  clear hw5
  clear c0 c1 C0 C1 X4 H4
  refine (waiting_at H5.out.1 hN).mono ?_
  rintro e w6 ⟨vw, rfl, hm⟩
  obtain ⟨pw', cw', rfl, -⟩ := hm.read
  have H6 : Hid (PL w6 F n a ∧ Below w5.heap.size w5 w6) := ⟨H5.out.1.later hm.below, hm.below⟩
  have R6 : Hid (Row w6 (.slice pw' (wt a.W).length cw') (wt a.W)) := (Row.own hm.own).1
  clear hm
  go_wp2_with fail
  refine (in_at H6.out.1 hN).mono ?_
  rintro e w7 ⟨vi, rfl, hm⟩
  obtain ⟨pi, ci, rfl, -⟩ := hm.read
  rw [hil2]
  have H7 : Hid (PL w7 F n a ∧ Below w5.heap.size w5 w7) := ⟨H6.out.1.later hm.below, below_then H6.out.2 hm.below⟩
  have R7 : Hid (Row w7 (.slice pw' (wt a.W).length cw') (wt a.W)) := R6.out.later hm.below
  clear hm R6 H6 hil2
  go_wp2
  go_loopw [22] (fun i wr => ∃ k : Nat, 1 ≤ k ∧ k ≤ (wt a.W).length + 1 ∧ i = .int .i64 k ∧ Hid (∃ m, wr = w7.drewN m)) (fun i _ => (wt a.W).length + 1 - (intOf i).toNat)
  case atStart => exact ⟨1, Nat.le_refl _, by omega, rfl, 0, rfl⟩
  case round =>
    obtain ⟨k, hk1, hk, rfl, HR⟩ := hrel
    have HBr : Hid (Below w7.heap.size w7 wr) := by
      obtain ⟨m, e⟩ := HR.out
      rw [e]
      exact below_drawn m
    by_cases hlt : k < (wt a.W).length
    · have i1 : (k : Int) < ((wt a.W).length : Int) := by omega
      obtain ⟨_, _, e0, hU, _⟩ := (R7.out.later HBr.out).form
      simp only [Value.slice.injEq] at e0
      obtain ⟨rfl, h9, rfl⟩ := e0
      obtain ⟨b', o', rfl, hcx⟩ := hU.cells (by omega)
      have h1 := hcx k hlt
      have h2 := hcx (k - 1) (by omega)
      have hk2 : ((k - 1 : Nat) : Int) = (k : Int) - 1 := by omega
      have hr := rise_get2 HO.out.wrise hk1 hlt
      have hw2 : IntKind.i64.wrap ((k : Int) - 1) = ((k - 1 : Nat) : Int) := by rw [IntKind.wrap_i64]; omega
      have i2 : ((k - 1 : Nat) : Int) < ((wt a.W).length : Int) := by omega
      clear hcx hU h9
      generalize (wt a.W).getD k 0 = x at *
      generalize (wt a.W).getD (k - 1) 0 = y at *
      have hd : decide (x ≤ y) = false := decide_eq_false (by omega)
      generalize hkk : k - 1 = k0 at *
      clear hk2
      have HK : Hid (k - 1 = k0) := hkk
      clear hkk
      go_wp2
      go_quiet (fail)
      go_wp2
      go_roundw
      case rel =>
        obtain ⟨m, e⟩ := HR.out
        exact ⟨k + 1, by omega, by omega, by go_num, m + nq, by rw [e, World.drewN_drewN]⟩
      case measure => simp [intOf]; omega
    · have hkl : ¬ (k : Int) < ((wt a.W).length : Int) := by omega
      have H8 : Hid (PL wr F n a) := H7.out.1.later HBr.out
      have HZ : Hid (PL wr F n a ∧ FX wr X b T ∧ Kept (· = X) w wr) := ⟨H8.out, H5.out.2.1.later (below_then H7.out.2 HBr.out), H5.out.2.2.trans (Kept.of_below (fun _ => False) (below_then H7.out.2 HBr.out)) (fun _ _ e => e.elim)⟩
      by_cases hI : 0 < a.I.length
      · have i3 : (0 : Int) < (a.I.length : Int) := by omega
        go_wp2
        go_ret
        exact ⟨rfl, HZ.out⟩
      · have i3 : ¬ (0 : Int) < (a.I.length : Int) := by omega
        by_cases hu : 0 < a.used
        · go_wp2
          go_ret
          exact ⟨rfl, HZ.out⟩
        · by_cases hW : (wt a.W).length = 0
          · have i4 : (((wt a.W).length : Int) == 0) = true := by simp [hW]
            go_wp2
            go_ret
            exact ⟨rfl, HZ.out⟩
          · have i4 : (((wt a.W).length : Int) == 0) = false := by rw [beq_eq_false_iff_ne]; omega
            have HFt : Hid (a.fits = true) := fits_empty HO.out (List.eq_nil_of_length_eq_zero (by omega)) hu (fun e => hW (by rw [hwW.out, e]; rfl))
            clear hW
            go_wp2_with (go_at_call 12; refine (fits_at H8.out hN).mono ?_; rw [HFt.out]; rintro e w9 ⟨rfl, hb⟩)
            go_ret
            exact ⟨rfl, HZ.out.1.later hb, HZ.out.2.1.later hb, HZ.out.2.2.trans (Kept.of_below (fun _ => False) hb) (fun _ _ e => e.elim)⟩
set_option maxHeartbeats 4000000 in
set_option maxRecDepth 100000 in
theorem sees_app {X : Nat} {b g T sm : Int} {pw : Option Addr} {mw cw : Nat} (h : PL w F n a) (hN : a.next ≤ 1000) (hG : ∀ g, F.G g → g < w.heap.size) (hX : FX w X b g) (hk : o.kd = 3) (hs : a.used + a.rsv ≤ sm) :
    Calls Try.prog 25 #[.pointer (some ⟨X, 0, none⟩), cfgA a, qp F.Q, .agg (ocells o), .int .i64 0, .int .u64 T, .slice pw mw cw, .int .i64 sm] w fun e w' => e = .returned (.bool true) ∧ PL w' F n a ∧ FX w' X b g ∧ Kept (· = X) w w' := by
  have hb1 : Hid (Below w.heap.size w ((w.alloc (cfgO a.bl a.lc a.mr a.hi a.cl)).alloc (.cells (ocells o) 51))) := below_then (below_alloc w _) (below_alloc _ _)
  have H1 : Hid (PL ((w.alloc (cfgO a.bl a.lc a.mr a.hi a.cl)).alloc (.cells (ocells o) 51)) F n a) := h.later hb1.out
  have HG : Hid (∀ g, F.G g → g < ((w.alloc (cfgO a.bl a.lc a.mr a.hi a.cl)).alloc (.cells (ocells o) 51)).heap.size) := fun g hg => Nat.lt_of_lt_of_le (hG g hg) hb1.out.size
  have X1 : Hid (FX ((w.alloc (cfgO a.bl a.lc a.mr a.hi a.cl)).alloc (.cells (ocells o) 51)) X b g) := hX.later hb1.out
  have HO : Hid a.Ok := h.ok
  have u0 := h.ok.used0
  have r0 := h.ok.rsv0
  have rm := h.ok.room
  have l64 := h.ok.may.2.2.2.1
  have hwl : (wt a.W).length ≤ 1000 := by have := h.ok.wlen; simp only [wt, List.length_map]; omega
  have hwW : Hid ((wt a.W).length = a.W.length) := by show _ = _; simp [wt]
  have hil2 : (it a.I).length = a.I.length := by simp [it]
  have hcc : ∀ o', ((w.alloc (cfgO a.bl a.lc a.mr a.hi a.cl)).alloc (.cells (ocells o) 51)).cell? ⟨w.heap.size, o', none⟩ = (#[Value.int .i64 a.bl, .int .i64 a.lc, .int .i64 a.mr, .int .i64 a.hi, .int .i64 a.cl] : Array Value)[o']? := fun o' => ((below_alloc (w.alloc (cfgO a.bl a.lc a.mr a.hi a.cl)) (.cells (ocells o) 51)).cell (p := ⟨w.heap.size, o', none⟩) (by simp)).trans (cell_of_row _ w.heap.size o' _ 28 (0, 0) (heap_alloc_new w _))
  have hoc : ∀ o', ((w.alloc (cfgO a.bl a.lc a.mr a.hi a.cl)).alloc (.cells (ocells o) 51)).cell? ⟨w.heap.size + 1, o', none⟩ = (ocells o)[o']? := fun o' => by
    have := cell_of_row _ (w.alloc (cfgO a.bl a.lc a.mr a.hi a.cl)).heap.size o' _ 51 (0, 0) (heap_alloc_new (w.alloc (cfgO a.bl a.lc a.mr a.hi a.cl)) (.cells (ocells o) 51))
    rw [World.size_alloc] at this
    exact this
  have C1 : Hid (((w.alloc (cfgO a.bl a.lc a.mr a.hi a.cl)).alloc (.cells (ocells o) 51)).cell? ⟨w.heap.size, 1, none⟩ = some (.int .i64 a.lc)) := hcc 1
  have C0 : Hid (((w.alloc (cfgO a.bl a.lc a.mr a.hi a.cl)).alloc (.cells (ocells o) 51)).cell? ⟨w.heap.size + 1, 0, none⟩ = some (.int .i64 o.kd)) := hoc 0
  have hsz1 : Hid (((w.alloc (cfgO a.bl a.lc a.mr a.hi a.cl)).alloc (.cells (ocells o) 51)).heap.size = w.heap.size + 2) := by show _ = _; simp
  have hw1 : IntKind.i64.wrap (a.used + a.rsv) = a.used + a.rsv := by rw [IntKind.wrap_i64]; omega
  clear h hG hX hcc hoc
  obtain ⟨kd, wh, p, m, c, t, k⟩ := o
  simp only at *
  subst hk
  go_enter Try.func25, Try.ntmps25
  go_wp2_with fail
  refine (told_at H1.out hN HG.out).mono ?_
  rintro e w2 ⟨q, d, rfl, hm⟩
  have HB2 : Hid (Below _ _ w2) := hm.below
  have H2 : Hid (PL w2 F n a) := H1.out.later hm.below
  clear hm
  go_wp2_with fail
  refine (same_below' (used_at H2.out)).mono ?_
  rintro e w3 ⟨rfl, hb⟩
  have HB3 : Hid (Below _ _ w3) := below_then HB2.out hb
  have H3 : Hid (PL w3 F n a) := H2.out.later hb
  clear hb
  go_wp2_with fail
  refine (same_below' (reserved_at H3.out)).mono ?_
  rintro e w4 ⟨rfl, hb⟩
  have HB4 : Hid (Below _ _ w4) := below_then HB3.out hb
  have H4 : Hid (PL w4 F n a) := H3.out.later hb
  have X4 : Hid (FX w4 X b g) := X1.out.later HB4.out
  have c1 : w4.cell? ⟨w.heap.size, 1, none⟩ = some (.int .i64 a.lc) := (HB4.out.cell (p := ⟨w.heap.size, 1, none⟩) (by simp only []; rw [hsz1.out]; omega)).trans C1.out
  have c0 : w4.cell? ⟨w.heap.size + 1, 0, none⟩ = some (.int .i64 3) := (HB4.out.cell (p := ⟨w.heap.size + 1, 0, none⟩) (by simp only []; rw [hsz1.out]; omega)).trans C0.out
  have hb04 : Hid (Below w.heap.size w w4) := below_then hb1.out HB4.out
  clear hb HB2 HB3 H1 H2 H3
  go_wp2_with fail
  have H5 : Hid (PL w4 F n a ∧ FX w4 X b g ∧ Kept (· = X) w w4) := ⟨H4.out, X4.out, Kept.of_below _ hb04.out⟩
  obtain ⟨w5, hw5⟩ : ∃ x, w4 = x := ⟨_, rfl⟩
  rw [hw5] at H5 ⊢
  clear hw5
  clear c0 c1 C0 C1 X4 H4
  refine (waiting_at H5.out.1 hN).mono ?_
  rintro e w6 ⟨vw, rfl, hm⟩
  obtain ⟨pw', cw', rfl, -⟩ := hm.read
  have H6 : Hid (PL w6 F n a ∧ Below w5.heap.size w5 w6) := ⟨H5.out.1.later hm.below, hm.below⟩
  have R6 : Hid (Row w6 (.slice pw' (wt a.W).length cw') (wt a.W)) := (Row.own hm.own).1
  clear hm
  go_wp2_with fail
  refine (in_at H6.out.1 hN).mono ?_
  rintro e w7 ⟨vi, rfl, hm⟩
  obtain ⟨pi, ci, rfl, -⟩ := hm.read
  rw [hil2]
  have H7 : Hid (PL w7 F n a ∧ Below w5.heap.size w5 w7) := ⟨H6.out.1.later hm.below, below_then H6.out.2 hm.below⟩
  have R7 : Hid (Row w7 (.slice pw' (wt a.W).length cw') (wt a.W)) := R6.out.later hm.below
  clear hm R6 H6 hil2
  go_wp2
  go_loopw [22] (fun i wr => ∃ k : Nat, 1 ≤ k ∧ k ≤ (wt a.W).length + 1 ∧ i = .int .i64 k ∧ Hid (∃ m, wr = w7.drewN m)) (fun i _ => (wt a.W).length + 1 - (intOf i).toNat)
  case atStart => exact ⟨1, Nat.le_refl _, by omega, rfl, 0, rfl⟩
  case round =>
    obtain ⟨k, hk1, hk, rfl, HR⟩ := hrel
    have HBr : Hid (Below w7.heap.size w7 wr) := by
      obtain ⟨m, e⟩ := HR.out
      rw [e]
      exact below_drawn m
    by_cases hlt : k < (wt a.W).length
    · have i1 : (k : Int) < ((wt a.W).length : Int) := by omega
      obtain ⟨_, _, e0, hU, _⟩ := (R7.out.later HBr.out).form
      simp only [Value.slice.injEq] at e0
      obtain ⟨rfl, h9, rfl⟩ := e0
      obtain ⟨b', o', rfl, hcx⟩ := hU.cells (by omega)
      have h1 := hcx k hlt
      have h2 := hcx (k - 1) (by omega)
      have hk2 : ((k - 1 : Nat) : Int) = (k : Int) - 1 := by omega
      have hr := rise_get2 HO.out.wrise hk1 hlt
      have hw2 : IntKind.i64.wrap ((k : Int) - 1) = ((k - 1 : Nat) : Int) := by rw [IntKind.wrap_i64]; omega
      have i2 : ((k - 1 : Nat) : Int) < ((wt a.W).length : Int) := by omega
      clear hcx hU h9
      generalize (wt a.W).getD k 0 = x at *
      generalize (wt a.W).getD (k - 1) 0 = y at *
      have hd : decide (x ≤ y) = false := decide_eq_false (by omega)
      generalize hkk : k - 1 = k0 at *
      clear hk2
      have HK : Hid (k - 1 = k0) := hkk
      clear hkk
      go_wp2
      go_quiet (fail)
      go_wp2
      go_roundw
      case rel =>
        obtain ⟨m, e⟩ := HR.out
        exact ⟨k + 1, by omega, by omega, by go_num, m + nq, by rw [e, World.drewN_drewN]⟩
      case measure => simp [intOf]; omega
    · have hkl : ¬ (k : Int) < ((wt a.W).length : Int) := by omega
      have H8 : Hid (PL wr F n a) := H7.out.1.later HBr.out
      have HZ : Hid (PL wr F n a ∧ FX wr X b g ∧ Kept (· = X) w wr) := ⟨H8.out, H5.out.2.1.later (below_then H7.out.2 HBr.out), H5.out.2.2.trans (Kept.of_below (fun _ => False) (below_then H7.out.2 HBr.out)) (fun _ _ e => e.elim)⟩
      by_cases hI : 0 < a.I.length
      · have i3 : (0 : Int) < (a.I.length : Int) := by omega
        go_wp2
        go_ret
        exact ⟨rfl, HZ.out⟩
      · have i3 : ¬ (0 : Int) < (a.I.length : Int) := by omega
        by_cases hu : 0 < a.used
        · go_wp2
          go_ret
          exact ⟨rfl, HZ.out⟩
        · by_cases hW : (wt a.W).length = 0
          · have i4 : (((wt a.W).length : Int) == 0) = true := by simp [hW]
            go_wp2
            go_ret
            exact ⟨rfl, HZ.out⟩
          · have i4 : (((wt a.W).length : Int) == 0) = false := by rw [beq_eq_false_iff_ne]; omega
            have HFt : Hid (a.fits = true) := fits_empty HO.out (List.eq_nil_of_length_eq_zero (by omega)) hu (fun e => hW (by rw [hwW.out, e]; rfl))
            clear hW
            go_wp2_with (go_at_call 12; refine (fits_at H8.out hN).mono ?_; rw [HFt.out]; rintro e w9 ⟨rfl, hb⟩)
            go_ret
            exact ⟨rfl, HZ.out.1.later hb, HZ.out.2.1.later hb, HZ.out.2.2.trans (Kept.of_below (fun _ => False) hb) (fun _ _ e => e.elim)⟩
set_option maxHeartbeats 4000000 in
set_option maxRecDepth 100000 in
theorem sees_don {X : Nat} {b g T sm : Int} {pw : Option Addr} {mw cw : Nat} (h : PL w F n a) (hN : a.next ≤ 1000) (hG : ∀ g, F.G g → g < w.heap.size) (hX : FX w X b g) (hk : o.kd = 4) (hs : a.used + a.rsv ≤ sm) :
    Calls Try.prog 25 #[.pointer (some ⟨X, 0, none⟩), cfgA a, qp F.Q, .agg (ocells o), .int .i64 0, .int .u64 T, .slice pw mw cw, .int .i64 sm] w fun e w' => e = .returned (.bool true) ∧ PL w' F n a ∧ FX w' X b g ∧ Kept (· = X) w w' := by
  have hb1 : Hid (Below w.heap.size w ((w.alloc (cfgO a.bl a.lc a.mr a.hi a.cl)).alloc (.cells (ocells o) 51))) := below_then (below_alloc w _) (below_alloc _ _)
  have H1 : Hid (PL ((w.alloc (cfgO a.bl a.lc a.mr a.hi a.cl)).alloc (.cells (ocells o) 51)) F n a) := h.later hb1.out
  have HG : Hid (∀ g, F.G g → g < ((w.alloc (cfgO a.bl a.lc a.mr a.hi a.cl)).alloc (.cells (ocells o) 51)).heap.size) := fun g hg => Nat.lt_of_lt_of_le (hG g hg) hb1.out.size
  have X1 : Hid (FX ((w.alloc (cfgO a.bl a.lc a.mr a.hi a.cl)).alloc (.cells (ocells o) 51)) X b g) := hX.later hb1.out
  have HO : Hid a.Ok := h.ok
  have u0 := h.ok.used0
  have r0 := h.ok.rsv0
  have rm := h.ok.room
  have l64 := h.ok.may.2.2.2.1
  have hwl : (wt a.W).length ≤ 1000 := by have := h.ok.wlen; simp only [wt, List.length_map]; omega
  have hwW : Hid ((wt a.W).length = a.W.length) := by show _ = _; simp [wt]
  have hil2 : (it a.I).length = a.I.length := by simp [it]
  have hcc : ∀ o', ((w.alloc (cfgO a.bl a.lc a.mr a.hi a.cl)).alloc (.cells (ocells o) 51)).cell? ⟨w.heap.size, o', none⟩ = (#[Value.int .i64 a.bl, .int .i64 a.lc, .int .i64 a.mr, .int .i64 a.hi, .int .i64 a.cl] : Array Value)[o']? := fun o' => ((below_alloc (w.alloc (cfgO a.bl a.lc a.mr a.hi a.cl)) (.cells (ocells o) 51)).cell (p := ⟨w.heap.size, o', none⟩) (by simp)).trans (cell_of_row _ w.heap.size o' _ 28 (0, 0) (heap_alloc_new w _))
  have hoc : ∀ o', ((w.alloc (cfgO a.bl a.lc a.mr a.hi a.cl)).alloc (.cells (ocells o) 51)).cell? ⟨w.heap.size + 1, o', none⟩ = (ocells o)[o']? := fun o' => by
    have := cell_of_row _ (w.alloc (cfgO a.bl a.lc a.mr a.hi a.cl)).heap.size o' _ 51 (0, 0) (heap_alloc_new (w.alloc (cfgO a.bl a.lc a.mr a.hi a.cl)) (.cells (ocells o) 51))
    rw [World.size_alloc] at this
    exact this
  have C1 : Hid (((w.alloc (cfgO a.bl a.lc a.mr a.hi a.cl)).alloc (.cells (ocells o) 51)).cell? ⟨w.heap.size, 1, none⟩ = some (.int .i64 a.lc)) := hcc 1
  have C0 : Hid (((w.alloc (cfgO a.bl a.lc a.mr a.hi a.cl)).alloc (.cells (ocells o) 51)).cell? ⟨w.heap.size + 1, 0, none⟩ = some (.int .i64 o.kd)) := hoc 0
  have hsz1 : Hid (((w.alloc (cfgO a.bl a.lc a.mr a.hi a.cl)).alloc (.cells (ocells o) 51)).heap.size = w.heap.size + 2) := by show _ = _; simp
  have hw1 : IntKind.i64.wrap (a.used + a.rsv) = a.used + a.rsv := by rw [IntKind.wrap_i64]; omega
  clear h hG hX hcc hoc
  obtain ⟨kd, wh, p, m, c, t, k⟩ := o
  simp only at *
  subst hk
  go_enter Try.func25, Try.ntmps25
  go_wp2_with fail
  refine (told_at H1.out hN HG.out).mono ?_
  rintro e w2 ⟨q, d, rfl, hm⟩
  have HB2 : Hid (Below _ _ w2) := hm.below
  have H2 : Hid (PL w2 F n a) := H1.out.later hm.below
  clear hm
  go_wp2_with fail
  refine (same_below' (used_at H2.out)).mono ?_
  rintro e w3 ⟨rfl, hb⟩
  have HB3 : Hid (Below _ _ w3) := below_then HB2.out hb
  have H3 : Hid (PL w3 F n a) := H2.out.later hb
  clear hb
  go_wp2_with fail
  refine (same_below' (reserved_at H3.out)).mono ?_
  rintro e w4 ⟨rfl, hb⟩
  have HB4 : Hid (Below _ _ w4) := below_then HB3.out hb
  have H4 : Hid (PL w4 F n a) := H3.out.later hb
  have X4 : Hid (FX w4 X b g) := X1.out.later HB4.out
  have c1 : w4.cell? ⟨w.heap.size, 1, none⟩ = some (.int .i64 a.lc) := (HB4.out.cell (p := ⟨w.heap.size, 1, none⟩) (by simp only []; rw [hsz1.out]; omega)).trans C1.out
  have c0 : w4.cell? ⟨w.heap.size + 1, 0, none⟩ = some (.int .i64 4) := (HB4.out.cell (p := ⟨w.heap.size + 1, 0, none⟩) (by simp only []; rw [hsz1.out]; omega)).trans C0.out
  have hb04 : Hid (Below w.heap.size w w4) := below_then hb1.out HB4.out
  clear hb HB2 HB3 H1 H2 H3
  go_wp2_with fail
  have H5 : Hid (PL w4 F n a ∧ FX w4 X b g ∧ Kept (· = X) w w4) := ⟨H4.out, X4.out, Kept.of_below _ hb04.out⟩
  obtain ⟨w5, hw5⟩ : ∃ x, w4 = x := ⟨_, rfl⟩
  rw [hw5] at H5 ⊢
  clear hw5
  clear c0 c1 C0 C1 X4 H4
  refine (waiting_at H5.out.1 hN).mono ?_
  rintro e w6 ⟨vw, rfl, hm⟩
  obtain ⟨pw', cw', rfl, -⟩ := hm.read
  have H6 : Hid (PL w6 F n a ∧ Below w5.heap.size w5 w6) := ⟨H5.out.1.later hm.below, hm.below⟩
  have R6 : Hid (Row w6 (.slice pw' (wt a.W).length cw') (wt a.W)) := (Row.own hm.own).1
  clear hm
  go_wp2_with fail
  refine (in_at H6.out.1 hN).mono ?_
  rintro e w7 ⟨vi, rfl, hm⟩
  obtain ⟨pi, ci, rfl, -⟩ := hm.read
  rw [hil2]
  have H7 : Hid (PL w7 F n a ∧ Below w5.heap.size w5 w7) := ⟨H6.out.1.later hm.below, below_then H6.out.2 hm.below⟩
  have R7 : Hid (Row w7 (.slice pw' (wt a.W).length cw') (wt a.W)) := R6.out.later hm.below
  clear hm R6 H6 hil2
  go_wp2
  go_loopw [22] (fun i wr => ∃ k : Nat, 1 ≤ k ∧ k ≤ (wt a.W).length + 1 ∧ i = .int .i64 k ∧ Hid (∃ m, wr = w7.drewN m)) (fun i _ => (wt a.W).length + 1 - (intOf i).toNat)
  case atStart => exact ⟨1, Nat.le_refl _, by omega, rfl, 0, rfl⟩
  case round =>
    obtain ⟨k, hk1, hk, rfl, HR⟩ := hrel
    have HBr : Hid (Below w7.heap.size w7 wr) := by
      obtain ⟨m, e⟩ := HR.out
      rw [e]
      exact below_drawn m
    by_cases hlt : k < (wt a.W).length
    · have i1 : (k : Int) < ((wt a.W).length : Int) := by omega
      obtain ⟨_, _, e0, hU, _⟩ := (R7.out.later HBr.out).form
      simp only [Value.slice.injEq] at e0
      obtain ⟨rfl, h9, rfl⟩ := e0
      obtain ⟨b', o', rfl, hcx⟩ := hU.cells (by omega)
      have h1 := hcx k hlt
      have h2 := hcx (k - 1) (by omega)
      have hk2 : ((k - 1 : Nat) : Int) = (k : Int) - 1 := by omega
      have hr := rise_get2 HO.out.wrise hk1 hlt
      have hw2 : IntKind.i64.wrap ((k : Int) - 1) = ((k - 1 : Nat) : Int) := by rw [IntKind.wrap_i64]; omega
      have i2 : ((k - 1 : Nat) : Int) < ((wt a.W).length : Int) := by omega
      clear hcx hU h9
      generalize (wt a.W).getD k 0 = x at *
      generalize (wt a.W).getD (k - 1) 0 = y at *
      have hd : decide (x ≤ y) = false := decide_eq_false (by omega)
      generalize hkk : k - 1 = k0 at *
      clear hk2
      have HK : Hid (k - 1 = k0) := hkk
      clear hkk
      go_wp2
      go_quiet (fail)
      go_wp2
      go_roundw
      case rel =>
        obtain ⟨m, e⟩ := HR.out
        exact ⟨k + 1, by omega, by omega, by go_num, m + nq, by rw [e, World.drewN_drewN]⟩
      case measure => simp [intOf]; omega
    · have hkl : ¬ (k : Int) < ((wt a.W).length : Int) := by omega
      have H8 : Hid (PL wr F n a) := H7.out.1.later HBr.out
      have HZ : Hid (PL wr F n a ∧ FX wr X b g ∧ Kept (· = X) w wr) := ⟨H8.out, H5.out.2.1.later (below_then H7.out.2 HBr.out), H5.out.2.2.trans (Kept.of_below (fun _ => False) (below_then H7.out.2 HBr.out)) (fun _ _ e => e.elim)⟩
      by_cases hI : 0 < a.I.length
      · have i3 : (0 : Int) < (a.I.length : Int) := by omega
        go_wp2
        go_ret
        exact ⟨rfl, HZ.out⟩
      · have i3 : ¬ (0 : Int) < (a.I.length : Int) := by omega
        by_cases hu : 0 < a.used
        · go_wp2
          go_ret
          exact ⟨rfl, HZ.out⟩
        · by_cases hW : (wt a.W).length = 0
          · have i4 : (((wt a.W).length : Int) == 0) = true := by simp [hW]
            go_wp2
            go_ret
            exact ⟨rfl, HZ.out⟩
          · have i4 : (((wt a.W).length : Int) == 0) = false := by rw [beq_eq_false_iff_ne]; omega
            have HFt : Hid (a.fits = true) := fits_empty HO.out (List.eq_nil_of_length_eq_zero (by omega)) hu (fun e => hW (by rw [hwW.out, e]; rfl))
            clear hW
            go_wp2_with (go_at_call 12; refine (fits_at H8.out hN).mono ?_; rw [HFt.out]; rintro e w9 ⟨rfl, hb⟩)
            go_ret
            exact ⟨rfl, HZ.out.1.later hb, HZ.out.2.1.later hb, HZ.out.2.2.trans (Kept.of_below (fun _ => False) hb) (fun _ _ e => e.elim)⟩
set_option maxHeartbeats 4000000 in
set_option maxRecDepth 100000 in
theorem sees_oth {X : Nat} {b g T sm : Int} {pw : Option Addr} {mw cw : Nat} (h : PL w F n a) (hN : a.next ≤ 1000) (hG : ∀ g, F.G g → g < w.heap.size) (hX : FX w X b g) (k1 : o.kd ≠ 1) (k2 : o.kd ≠ 2) (k3 : o.kd ≠ 3) (k4 : o.kd ≠ 4) :
    Calls Try.prog 25 #[.pointer (some ⟨X, 0, none⟩), cfgA a, qp F.Q, .agg (ocells o), .int .i64 0, .int .u64 T, .slice pw mw cw, .int .i64 sm] w fun e w' => e = .returned (.bool true) ∧ PL w' F n a ∧ FX w' X b g ∧ Kept (· = X) w w' := by
  have hb1 : Hid (Below w.heap.size w ((w.alloc (cfgO a.bl a.lc a.mr a.hi a.cl)).alloc (.cells (ocells o) 51))) := below_then (below_alloc w _) (below_alloc _ _)
  have H1 : Hid (PL ((w.alloc (cfgO a.bl a.lc a.mr a.hi a.cl)).alloc (.cells (ocells o) 51)) F n a) := h.later hb1.out
  have HG : Hid (∀ g, F.G g → g < ((w.alloc (cfgO a.bl a.lc a.mr a.hi a.cl)).alloc (.cells (ocells o) 51)).heap.size) := fun g hg => Nat.lt_of_lt_of_le (hG g hg) hb1.out.size
  have X1 : Hid (FX ((w.alloc (cfgO a.bl a.lc a.mr a.hi a.cl)).alloc (.cells (ocells o) 51)) X b g) := hX.later hb1.out
  have HO : Hid a.Ok := h.ok
  have u0 := h.ok.used0
  have r0 := h.ok.rsv0
  have rm := h.ok.room
  have l64 := h.ok.may.2.2.2.1
  have hwl : (wt a.W).length ≤ 1000 := by have := h.ok.wlen; simp only [wt, List.length_map]; omega
  have hwW : Hid ((wt a.W).length = a.W.length) := by show _ = _; simp [wt]
  have hil2 : (it a.I).length = a.I.length := by simp [it]
  have hcc : ∀ o', ((w.alloc (cfgO a.bl a.lc a.mr a.hi a.cl)).alloc (.cells (ocells o) 51)).cell? ⟨w.heap.size, o', none⟩ = (#[Value.int .i64 a.bl, .int .i64 a.lc, .int .i64 a.mr, .int .i64 a.hi, .int .i64 a.cl] : Array Value)[o']? := fun o' => ((below_alloc (w.alloc (cfgO a.bl a.lc a.mr a.hi a.cl)) (.cells (ocells o) 51)).cell (p := ⟨w.heap.size, o', none⟩) (by simp)).trans (cell_of_row _ w.heap.size o' _ 28 (0, 0) (heap_alloc_new w _))
  have hoc : ∀ o', ((w.alloc (cfgO a.bl a.lc a.mr a.hi a.cl)).alloc (.cells (ocells o) 51)).cell? ⟨w.heap.size + 1, o', none⟩ = (ocells o)[o']? := fun o' => by
    have := cell_of_row _ (w.alloc (cfgO a.bl a.lc a.mr a.hi a.cl)).heap.size o' _ 51 (0, 0) (heap_alloc_new (w.alloc (cfgO a.bl a.lc a.mr a.hi a.cl)) (.cells (ocells o) 51))
    rw [World.size_alloc] at this
    exact this
  have C1 : Hid (((w.alloc (cfgO a.bl a.lc a.mr a.hi a.cl)).alloc (.cells (ocells o) 51)).cell? ⟨w.heap.size, 1, none⟩ = some (.int .i64 a.lc)) := hcc 1
  have C0 : Hid (((w.alloc (cfgO a.bl a.lc a.mr a.hi a.cl)).alloc (.cells (ocells o) 51)).cell? ⟨w.heap.size + 1, 0, none⟩ = some (.int .i64 o.kd)) := hoc 0
  have hsz1 : Hid (((w.alloc (cfgO a.bl a.lc a.mr a.hi a.cl)).alloc (.cells (ocells o) 51)).heap.size = w.heap.size + 2) := by show _ = _; simp
  have hw1 : IntKind.i64.wrap (a.used + a.rsv) = a.used + a.rsv := by rw [IntKind.wrap_i64]; omega
  clear h hG hX hcc hoc
  obtain ⟨kd, wh, p, m, c, t, k⟩ := o
  simp only at *
  have b1 : (kd == 1) = false := by simpa using k1
  have b2 : (kd == 2) = false := by simpa using k2
  have b3 : (kd == 3) = false := by simpa using k3
  have b4 : (kd == 4) = false := by simpa using k4
  go_enter Try.func25, Try.ntmps25
  go_wp2_with fail
  refine (told_at H1.out hN HG.out).mono ?_
  rintro e w2 ⟨q, d, rfl, hm⟩
  have HB2 : Hid (Below _ _ w2) := hm.below
  have H2 : Hid (PL w2 F n a) := H1.out.later hm.below
  clear hm
  go_wp2_with fail
  refine (same_below' (used_at H2.out)).mono ?_
  rintro e w3 ⟨rfl, hb⟩
  have HB3 : Hid (Below _ _ w3) := below_then HB2.out hb
  have H3 : Hid (PL w3 F n a) := H2.out.later hb
  clear hb
  go_wp2_with fail
  refine (same_below' (reserved_at H3.out)).mono ?_
  rintro e w4 ⟨rfl, hb⟩
  have HB4 : Hid (Below _ _ w4) := below_then HB3.out hb
  have H4 : Hid (PL w4 F n a) := H3.out.later hb
  have X4 : Hid (FX w4 X b g) := X1.out.later HB4.out
  have c1 : w4.cell? ⟨w.heap.size, 1, none⟩ = some (.int .i64 a.lc) := (HB4.out.cell (p := ⟨w.heap.size, 1, none⟩) (by simp only []; rw [hsz1.out]; omega)).trans C1.out
  have c0 : w4.cell? ⟨w.heap.size + 1, 0, none⟩ = some (.int .i64 kd) := (HB4.out.cell (p := ⟨w.heap.size + 1, 0, none⟩) (by simp only []; rw [hsz1.out]; omega)).trans C0.out
  have hb04 : Hid (Below w.heap.size w w4) := below_then hb1.out HB4.out
  clear hb HB2 HB3 H1 H2 H3
  go_wp2_with fail
  have H5 : Hid (PL w4 F n a ∧ FX w4 X b g ∧ Kept (· = X) w w4) := ⟨H4.out, X4.out, Kept.of_below _ hb04.out⟩
  obtain ⟨w5, hw5⟩ : ∃ x, w4 = x := ⟨_, rfl⟩
  rw [hw5] at H5 ⊢
  clear hw5
  clear c0 c1 C0 C1 X4 H4
  refine (waiting_at H5.out.1 hN).mono ?_
  rintro e w6 ⟨vw, rfl, hm⟩
  obtain ⟨pw', cw', rfl, -⟩ := hm.read
  have H6 : Hid (PL w6 F n a ∧ Below w5.heap.size w5 w6) := ⟨H5.out.1.later hm.below, hm.below⟩
  have R6 : Hid (Row w6 (.slice pw' (wt a.W).length cw') (wt a.W)) := (Row.own hm.own).1
  clear hm
  go_wp2_with fail
  refine (in_at H6.out.1 hN).mono ?_
  rintro e w7 ⟨vi, rfl, hm⟩
  obtain ⟨pi, ci, rfl, -⟩ := hm.read
  rw [hil2]
  have H7 : Hid (PL w7 F n a ∧ Below w5.heap.size w5 w7) := ⟨H6.out.1.later hm.below, below_then H6.out.2 hm.below⟩
  have R7 : Hid (Row w7 (.slice pw' (wt a.W).length cw') (wt a.W)) := R6.out.later hm.below
  clear hm R6 H6 hil2
  go_wp2
  go_loopw [22] (fun i wr => ∃ k : Nat, 1 ≤ k ∧ k ≤ (wt a.W).length + 1 ∧ i = .int .i64 k ∧ Hid (∃ m, wr = w7.drewN m)) (fun i _ => (wt a.W).length + 1 - (intOf i).toNat)
  case atStart => exact ⟨1, Nat.le_refl _, by omega, rfl, 0, rfl⟩
  case round =>
    obtain ⟨k, hk1, hk, rfl, HR⟩ := hrel
    have HBr : Hid (Below w7.heap.size w7 wr) := by
      obtain ⟨m, e⟩ := HR.out
      rw [e]
      exact below_drawn m
    by_cases hlt : k < (wt a.W).length
    · have i1 : (k : Int) < ((wt a.W).length : Int) := by omega
      obtain ⟨_, _, e0, hU, _⟩ := (R7.out.later HBr.out).form
      simp only [Value.slice.injEq] at e0
      obtain ⟨rfl, h9, rfl⟩ := e0
      obtain ⟨b', o', rfl, hcx⟩ := hU.cells (by omega)
      have h1 := hcx k hlt
      have h2 := hcx (k - 1) (by omega)
      have hk2 : ((k - 1 : Nat) : Int) = (k : Int) - 1 := by omega
      have hr := rise_get2 HO.out.wrise hk1 hlt
      have hw2 : IntKind.i64.wrap ((k : Int) - 1) = ((k - 1 : Nat) : Int) := by rw [IntKind.wrap_i64]; omega
      have i2 : ((k - 1 : Nat) : Int) < ((wt a.W).length : Int) := by omega
      clear hcx hU h9
      generalize (wt a.W).getD k 0 = x at *
      generalize (wt a.W).getD (k - 1) 0 = y at *
      have hd : decide (x ≤ y) = false := decide_eq_false (by omega)
      generalize hkk : k - 1 = k0 at *
      clear hk2
      have HK : Hid (k - 1 = k0) := hkk
      clear hkk
      go_wp2
      go_quiet (fail)
      go_wp2
      go_roundw
      case rel =>
        obtain ⟨m, e⟩ := HR.out
        exact ⟨k + 1, by omega, by omega, by go_num, m + nq, by rw [e, World.drewN_drewN]⟩
      case measure => simp [intOf]; omega
    · have hkl : ¬ (k : Int) < ((wt a.W).length : Int) := by omega
      have H8 : Hid (PL wr F n a) := H7.out.1.later HBr.out
      have HZ : Hid (PL wr F n a ∧ FX wr X b g ∧ Kept (· = X) w wr) := ⟨H8.out, H5.out.2.1.later (below_then H7.out.2 HBr.out), H5.out.2.2.trans (Kept.of_below (fun _ => False) (below_then H7.out.2 HBr.out)) (fun _ _ e => e.elim)⟩
      by_cases hI : 0 < a.I.length
      · have i3 : (0 : Int) < (a.I.length : Int) := by omega
        go_wp2
        go_ret
        exact ⟨rfl, HZ.out⟩
      · have i3 : ¬ (0 : Int) < (a.I.length : Int) := by omega
        by_cases hu : 0 < a.used
        · go_wp2
          go_ret
          exact ⟨rfl, HZ.out⟩
        · by_cases hW : (wt a.W).length = 0
          · have i4 : (((wt a.W).length : Int) == 0) = true := by simp [hW]
            go_wp2
            go_ret
            exact ⟨rfl, HZ.out⟩
          · have i4 : (((wt a.W).length : Int) == 0) = false := by rw [beq_eq_false_iff_ne]; omega
            have HFt : Hid (a.fits = true) := fits_empty HO.out (List.eq_nil_of_length_eq_zero (by omega)) hu (fun e => hW (by rw [hwW.out, e]; rfl))
            clear hW
            go_wp2_with (go_at_call 12; refine (fits_at H8.out hN).mono ?_; rw [HFt.out]; rintro e w9 ⟨rfl, hb⟩)
            go_ret
            exact ⟨rfl, HZ.out.1.later hb, HZ.out.2.1.later hb, HZ.out.2.2.trans (Kept.of_below (fun _ => False) hb) (fun _ _ e => e.elim)⟩
end
end Go.Proofs.Ytnbegddpgmejnaa
