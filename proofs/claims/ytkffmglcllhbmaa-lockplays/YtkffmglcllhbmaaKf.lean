/-
  Layer 14: Lay.
-/
import Derived.Test.YtkffmglcllhbmaaKe
namespace Go.Proofs.Ytkffmglcllhbmaa
open Go.RowKit


section
variable {w : World} {F : Ft} {n : Nat} {a : Lk}
theorem own_blk {w : World} {base : Nat} {e : TypeId} {size : Nat} {v : Value} {n : Nat} {xs : List Value} (h : w.ownsRow base e size v n xs) {g : Nat} (hg : blk v = some g) : base ≤ g := by
  rcases h.2 with ⟨rfl, _⟩ | ⟨g', cap, cur, rfl, h1, _⟩
  · cases hg
  · cases hg; exact h1
set_option maxHeartbeats 2000000 in
set_option maxRecDepth 100000 in
theorem lay_nil (w : World) (t : Int) (v : Value) : Calls Try.prog 22 #[nilq, .int .u64 t, v] w fun e w' => e = .returned (.int .i64 1) ∧ w' = w := by
  go_enter Try.func22, Try.ntmps22
  go_wp2
  go_ret
  exact ⟨rfl, rfl⟩
set_option maxHeartbeats 2000000 in
set_option maxRecDepth 100000 in
theorem lay_empty (F : Ft) (w : World) (t : Int) (p : Option Addr) (c : Nat) : Calls Try.prog 22 #[qp F.Q, .int .u64 t, .slice p 0 c] w fun e w' => e = .returned (.int .i64 53) ∧ Below w.heap.size w w' := by
  go_enter Try.func22, Try.ntmps22
  go_wp2
  go_ret
  exact ⟨rfl, Below.refl _ _⟩
set_option maxHeartbeats 2000000 in
set_option maxRecDepth 100000 in
theorem lay_form (F : Ft) (t : Int) {p : Option Addr} {k c : Nat} {s : List Int} (hI : B.IIn w p k s) (hk : k ≤ 140737488355328) (h0 : 0 < k) (hs : risS s = false) : Calls Try.prog 22 #[qp F.Q, .int .u64 t, .slice p k c] w fun e w' => e = .returned (.int .i64 53) ∧ Below w.heap.size w w' := by
  have hz : ((k : Int) == 0) = false := by rw [beq_eq_false_iff_ne]; omega
  go_enter Try.func22, Try.ntmps22
  go_wp2_with (go_at_call 41; refine (rises_is p k c s w hI hk).mono ?_; rw [hs]; rintro e w1 ⟨rfl, m, rfl⟩)
  go_ret
  exact ⟨rfl, below_drawn _⟩
theorem last_get {s : List Int} (h : s ≠ []) : s.getD (s.length - 1) 0 ∈ s := by
  have hl : s.length - 1 < s.length := by have := List.length_pos_iff.2 h; omega
  rw [List.getD, List.getElem?_eq_getElem hl]
  exact List.getElem_mem hl
theorem rng_ends {s : List Int} {N : Nat} (hs : s ≠ []) (hp : s.Pairwise (· < ·)) (h0 : 0 ≤ s.getD 0 0) (h1 : s.getD (s.length - 1) 0 < N) : ∀ b ∈ s, 0 ≤ b ∧ b < N := by
  intro b hb
  obtain ⟨i, hi, rfl⟩ := List.getElem_of_mem hb
  have hl : 0 < s.length := List.length_pos_iff.2 hs
  have hg : ∀ j (hj : j < s.length), s.getD j 0 = s[j] := fun j hj => by simp [List.getD, hj]
  rw [hg 0 hl] at h0
  rw [hg (s.length - 1) (by omega)] at h1
  have hpw := List.pairwise_iff_getElem.1 hp
  constructor
  · by_cases e : i = 0
    · subst e; exact h0
    · have := hpw 0 i hl hi (by omega); omega
  · by_cases e : i = s.length - 1
    · subst e; exact h1
    · have := hpw i (s.length - 1) hi (by omega) (by omega); omega
set_option maxHeartbeats 2000000 in
set_option maxRecDepth 100000 in
theorem lay_block0 (h : PL w F n a) (t : Int) {p : Option Addr} {k c : Nat} {s : List Int} (hI : B.IIn w p k s) (hk : k ≤ 140737488355328) (h0 : 0 < k) (hs : risS s = true) (hb : isB a (s.getD 0 0) = false) : Calls Try.prog 22 #[qp F.Q, .int .u64 t, .slice p k c] w fun e w' => e = .returned (.int .i64 51) ∧ Below w.heap.size w w' := by
  have hz : ((k : Int) == 0) = false := by rw [beq_eq_false_iff_ne]; omega
  have HI : Hid (B.IIn w p k s) := hI
  obtain ⟨bb, o, rfl, hc⟩ := hI.cells h0
  have c0 : ∀ m, (w.drewN m).cell? ⟨bb, o, none⟩ = some (.int .i64 (s.getD 0 0)) := fun m => hc 0 h0
  have H : Hid (PL w F n a) := h
  clear h hI hc
  generalize s.getD 0 0 = x at *
  have i1 : (0 : Int) < (k : Int) := by omega
  go_enter Try.func22, Try.ntmps22
  go_wp2_with (first | (go_at_call 41; refine (rises_is _ k c s w HI.out hk).mono ?_; rw [hs]; rintro e w1 ⟨rfl, m, rfl⟩; have c1 := c0 m) | (go_at_call 42; refine (hasBlock_at (H.out.drawn m) x).mono ?_; rw [hb]; rintro e w2 ⟨rfl, rfl⟩))
  go_ret
  exact ⟨rfl, below_drawn _⟩
set_option maxHeartbeats 2000000 in
set_option maxRecDepth 100000 in
theorem lay_block1 (h : PL w F n a) (t : Int) {p : Option Addr} {k c : Nat} {s : List Int} (hI : B.IIn w p k s) (hk : k ≤ 140737488355328) (h0 : 0 < k) (hs : risS s = true) (hb0 : isB a (s.getD 0 0) = true) (hb : isB a (s.getD (k - 1) 0) = false) : Calls Try.prog 22 #[qp F.Q, .int .u64 t, .slice p k c] w fun e w' => e = .returned (.int .i64 51) ∧ Below w.heap.size w w' := by
  have hz : ((k : Int) == 0) = false := by rw [beq_eq_false_iff_ne]; omega
  have HI : Hid (B.IIn w p k s) := hI
  obtain ⟨bb, o, rfl, hc⟩ := hI.cells h0
  have c0 : ∀ m, (w.drewN m).cell? ⟨bb, o, none⟩ = some (.int .i64 (s.getD 0 0)) := fun m => hc 0 h0
  have cl : ∀ m, (w.drewN m).cell? ⟨bb, o + (k - 1), none⟩ = some (.int .i64 (s.getD (k - 1) 0)) := fun m => hc (k - 1) (by omega)
  have H : Hid (PL w F n a) := h
  clear h hI hc
  have hne : Hid (isB a (s.getD 0 0) = true) := hb0
  have hne2 : Hid (isB a (s.getD (k - 1) 0) = false) := hb
  clear hb0 hb
  generalize s.getD 0 0 = x at *
  generalize s.getD (k - 1) 0 = y at *
  have i1 : (0 : Int) < (k : Int) := by omega
  have i2 : IntKind.i64.wrap ((k : Int) - 1) = ((k - 1 : Nat) : Int) := by rw [IntKind.wrap_i64]; omega
  have i3 : ((k - 1 : Nat) : Int) < (k : Int) := by omega
  generalize k - 1 = k1 at *
  go_enter Try.func22, Try.ntmps22
  go_wp2_with (go_at_call 41; refine (rises_is _ k c s w HI.out hk).mono ?_; rw [hs]; rintro e w1 ⟨rfl, m, rfl⟩; have c1 := c0 m; have c2 := cl m)
  refine (hasBlock_at (H.out.drawn m) x).mono ?_
  rw [hne.out]
  rintro e w2 ⟨rfl, rfl⟩
  go_wp2_with fail
  refine (hasBlock_at (H.out.drawn m) y).mono ?_
  rw [hne2.out]
  rintro e w2 ⟨rfl, rfl⟩
  go_wp2_with fail
  go_ret
  exact ⟨rfl, below_drawn _⟩
set_option maxHeartbeats 2000000 in
set_option maxRecDepth 100000 in
theorem lay_low (h : PL w F n a) (t : Int) {p : Option Addr} {k c : Nat} {s : List Int} (hI : B.IIn w p k s) (hk : k ≤ 140737488355328) (h0 : 0 < k) (hs : risS s = true) (hb0 : isB a (s.getD 0 0) = true) (hb : isB a (s.getD (k - 1) 0) = true) (ht : t ≤ a.last) : Calls Try.prog 22 #[qp F.Q, .int .u64 t, .slice p k c] w fun e w' => e = .returned (.int .i64 110) ∧ Below w.heap.size w w' := by
  have hz : ((k : Int) == 0) = false := by rw [beq_eq_false_iff_ne]; omega
  have HI : Hid (B.IIn w p k s) := hI
  obtain ⟨bb, o, rfl, hc⟩ := hI.cells h0
  have c0 : ∀ m, (w.drewN m).cell? ⟨bb, o, none⟩ = some (.int .i64 (s.getD 0 0)) := fun m => hc 0 h0
  have cl : ∀ m, (w.drewN m).cell? ⟨bb, o + (k - 1), none⟩ = some (.int .i64 (s.getD (k - 1) 0)) := fun m => hc (k - 1) (by omega)
  have ct : ∀ m, (w.drewN m).cell? ⟨F.Q, 1, none⟩ = some (qp F.th) := fun m => h.c 1
  have H : Hid (PL w F n a) := h
  clear h hI hc
  have hne : Hid (isB a (s.getD 0 0) = true) := hb0
  have hne2 : Hid (isB a (s.getD (k - 1) 0) = true) := hb
  have HT : Hid (t ≤ a.last) := ht
  clear hb0 hb ht
  generalize s.getD 0 0 = x at *
  generalize s.getD (k - 1) 0 = y at *
  have i1 : (0 : Int) < (k : Int) := by omega
  have i2 : IntKind.i64.wrap ((k : Int) - 1) = ((k - 1 : Nat) : Int) := by rw [IntKind.wrap_i64]; omega
  have i3 : ((k - 1 : Nat) : Int) < (k : Int) := by omega
  generalize k - 1 = k1 at *
  go_enter Try.func22, Try.ntmps22
  go_wp2_with (go_at_call 41; refine (rises_is _ k c s w HI.out hk).mono ?_; rw [hs]; rintro e w1 ⟨rfl, m, rfl⟩; have c1 := c0 m; have c2 := cl m; have c3 := ct m)
  refine (hasBlock_at (H.out.drawn m) x).mono ?_
  rw [hne.out]
  rintro e w2 ⟨rfl, rfl⟩
  go_wp2_with fail
  refine (hasBlock_at (H.out.drawn m) y).mono ?_
  rw [hne2.out]
  rintro e w2 ⟨rfl, rfl⟩
  go_wp2_with fail
  refine (put_low (H.out.drawn m).lt' t HT.out).mono ?_
  rintro e w2 ⟨rfl, rfl⟩
  go_wp2_with fail
  go_ret
  exact ⟨rfl, below_drawn _⟩
/-- what the queues hold when k of the set are through -/
def laidQ (L : List En) (t : Int) (s : List Int) (k : Nat) (i : Nat) : List Int := if (i : Int) ∈ s.take k then qS L i ++ [t] else qS L i
theorem laidQ_step {L : List En} {t : Int} {s : List Int} {k i : Nat} (hk : k < s.length) (hs : s.Pairwise (· < ·)) (hi : s.getD k 0 = (i : Int)) : (laidQ L t s k i = qS L i) ∧ ∀ j, laidQ L t s (k + 1) j = upd (laidQ L t s k) i (qS L i ++ [t]) j := by
  have hg : s[k] = (i : Int) := by rw [← hi]; simp [List.getD, hk]
  have hn : (i : Int) ∉ s.take k := fun hm => by
    obtain ⟨j, hj, e⟩ := List.getElem_of_mem hm
    have hj2 : j < k ∧ j < s.length := by simp at hj; omega
    rw [List.getElem_take] at e
    have := (List.pairwise_iff_getElem.1 hs) j k hj2.2 hk hj2.1
    omega
  refine ⟨if_neg hn, fun j => ?_⟩
  unfold laidQ
  rw [List.take_succ_eq_append_getElem hk, hg]
  by_cases e : j = i
  · subst e
    rw [upd_same, if_pos (by simp)]
  · rw [upd_other _ _ e]
    have : ((j : Int) ∈ s.take k ++ [(i : Int)]) ↔ (j : Int) ∈ s.take k := by
      simp only [List.mem_append, List.mem_singleton]
      exact ⟨fun h => h.elim id (fun e2 => absurd (by omega) e), .inl⟩
    simp only [this]
theorem laidQ_all {L : List En} {t : Int} {s : List Int} (i : Nat) : laidQ L t s s.length i = qS (L ++ [⟨t, s, 0⟩]) i := by
  rw [qS_snoc]
  unfold laidQ
  simp only [List.take_length, hsS_iff]
theorem laidQ_zero {L : List En} {t : Int} {s : List Int} (i : Nat) : laidQ L t s 0 i = qS L i := by simp [laidQ]
/-- what is laid: locks with one more -/
theorem PL.laid {w5 w6 wX : World} {F' : Ft} {M : Nat → Int} {t : Int} {s : List Int} {q : Option Addr} {d : Nat} (h : PL w F n a) (ht : a.last < t) (ok : Ok ⟨a.bl, t, a.L ++ [⟨t, s, 0⟩]⟩) (hT : Trn w F a.bl wX F' (fun i => qS (a.L ++ [⟨t, s, 0⟩]) i) M (tix a.L ++ [t]) t) (hM : ∀ i, i < a.bl → M i ≤ t)
    (hb5 : Below wX.heap.size wX w5) (hfr : Frm w5 (.slice q s.length d) s) (hq : ∀ g, blk (.slice q s.length d) = some g → w.heap.size ≤ g) (hm6 : VMp w6 F.mb (n + 1) (fun u => if u = t then some (cv (.slice q s.length d) 0) else F.m u)) (hk6 : Kept (· = F.mb) w5 w6) :
    ∃ F2, PL w6 F2 (n + 1) ⟨a.bl, t, a.L ++ [⟨t, s, 0⟩]⟩ ∧ Kept (F.has a.bl) w w6 ∧ Grw w w6 a.bl F F2 := by
  have hc5 : CM w5 F.G F.mb n a.L F.m := hT.cm h |>.far (Kept.of_below (fun _ => False) hb5) id (fun _ _ _ => id)
  have hT5 := hT.later hb5
  have kk : Kept (F.has a.bl) w w6 := (hT5.kept.wider (T := F.has a.bl) (fun x _ e => qset_has e)).trans hk6 (fun x _ e => .inr (.inr (.inr (.inr (.inr (.inr e))))))
  have km5 : kd w5 F.mb = 100000 := kd_map hc5.mp.typ
  have hi5 : ∀ g, kd w5 g = 3 → ¬ g = F.mb := fun g hg e => by rw [e, km5] at hg; cases hg
  let F2 : Ft := { F' with G := fun b => F.G b ∨ (w.heap.size ≤ b ∧ b < w6.heap.size), m := fun u => if u = t then some (cv (.slice q s.length d) 0) else F.m u }
  have hT6 := hT5.pq.mapped hk6 km5
  refine ⟨F2, ⟨hT6.st, hT6.qs, fun i hi => ⟨M i, hM i hi, hT6.lq i hi⟩, ?_, ⟨?_, fun u hu hin => ?_, fun e he => ?_⟩, ok, by have := h.len; simp; omega, hT6.qq, hT6.qt, hT6.vv, hT6.vt⟩, kk, ?_⟩
  · show QAt _ _ F'.th F'.tv (tix (a.L ++ [⟨t, s, 0⟩])) t
    rw [tix_snoc]; exact hT6.lt'
  · show VMp w6 F'.mb (n + 1) _
    rw [hT.fro.mb]; exact hm6
  · have hut : u ≠ t := fun e => by
      have : isIn (a.L ++ [⟨t, s, 0⟩]) u = true := isIn_iff.2 (by rw [tix_snoc, e]; simp)
      rw [hin] at this; cases this
    show (if u = t then _ else F.m u) = none
    rw [if_neg hut]
    refine hc5.out u hu ?_
    cases hi : isIn a.L u with
    | false => rfl
    | true =>
      have : isIn (a.L ++ [⟨t, s, 0⟩]) u = true := isIn_iff.2 (by rw [tix_snoc]; exact List.mem_append_left _ (isIn_iff.1 hi))
      rw [hin] at this; cases this
  · rcases List.mem_append.1 he with he | he
    · have hne : e.t ≠ t := by have := h.ok.top e he; omega
      obtain ⟨p, c, e1, e2, e3⟩ := hc5.ins e he
      refine ⟨p, c, ?_, e2.far hk6 (fun g _ hg => hi5 g hg), fun g hg => .inl (e3 g hg)⟩
      show (if e.t = t then _ else F.m e.t) = _
      rw [if_neg hne]; exact e1
    · simp only [List.mem_singleton] at he
      subst he
      exact ⟨q, d, if_pos rfl, hfr.far hk6 (fun g _ hg => hi5 g hg), fun g hg => .inr ⟨hq g hg, Nat.lt_of_lt_of_le (hfr.lt hg).1 hk6.size⟩⟩
  · refine ⟨hT.fro.Q, fun b hb => hT.fro.has hb, fun b hb => hb⟩
set_option maxHeartbeats 2000000 in
set_option maxRecDepth 100000 in
theorem lay_ok (h : PL w F n a) (hn : n < 10000) (t : Int) (ht : U64 t) {p : Option Addr} {k c : Nat} {s : List Int} (hI : B.IIn w p k s) (hkc : k ≤ c) (hp0 : p = none → c = 0) (hk : k ≤ 64) (h0 : 0 < k) (hs : risS s = true) (hr : ∀ b ∈ s, 0 ≤ b ∧ b < a.bl) (hlt : a.last < t) (h3 : ∀ ad, p = some ad → kd w ad.block = 3) :
    Calls Try.prog 22 #[qp F.Q, .int .u64 t, .slice p k c] w fun e w' => e = .returned (.int .i64 0) ∧ ∃ F', PL w' F' (n + 1) ⟨a.bl, t, a.L ++ [⟨t, s, 0⟩]⟩ ∧ Kept (F.has a.bl) w w' ∧ Grw w w' a.bl F F' := by
  have hlen := hI.len
  subst hlen
  have hz : ((s.length : Int) == 0) = false := by rw [beq_eq_false_iff_ne]; omega
  have hsn : s ≠ [] := List.length_pos_iff.1 h0
  have hup : s.Pairwise (· < ·) := by simpa [risS] using hs
  have HI : Hid (B.IIn w p s.length s) := hI
  have HOK : Hid (Ok ⟨a.bl, t, a.L ++ [⟨t, s, 0⟩]⟩) := h.ok.lay hsn hup hr hlt (u64_iff.1 ht).2
  have HU : Hid (s.Pairwise (· < ·)) := hup
  have HR : Hid (∀ b ∈ s, 0 ≤ b ∧ b < a.bl) := hr
  have HLT : Hid (a.last < t) := hlt
  have hmem : ∀ j, j < s.length → s.getD j 0 ∈ s := fun j hj => by rw [List.getD, List.getElem?_eq_getElem hj]; exact List.getElem_mem hj
  have hne : Hid (isB a (s.getD 0 0) = true) := decide_eq_true (hr _ (hmem 0 h0))
  have hne2 : Hid (isB a (s.getD (s.length - 1) 0) = true) := decide_eq_true (hr _ (hmem _ (by omega)))
  have HMEM : Hid (∀ j, j < s.length → s.getD j 0 ∈ s) := hmem
  obtain ⟨bb, o, hpp, hc⟩ := hI.cells h0
  subst hpp
  have HN : Hid (¬ F.qset a.bl bb) := fun e => h.noInts (h3 _ rfl) (qset_has e)
  clear h3
  have c0 : ∀ m, (w.drewN m).cell? ⟨bb, o, none⟩ = some (.int .i64 (s.getD 0 0)) := fun m => hc 0 h0
  have cl : ∀ m, (w.drewN m).cell? ⟨bb, o + (s.length - 1), none⟩ = some (.int .i64 (s.getD (s.length - 1) 0)) := fun m => hc (s.length - 1) (by omega)
  have ct : ∀ m, (w.drewN m).cell? ⟨F.Q, 1, none⟩ = some (qp F.th) := fun m => h.c 1
  have hlen : (tix a.L).length ≤ n := by have := h.len; simpa [tix] using this
  have H : Hid (PL w F n a) := h
  clear h hI hc hsn hup hr hlt hmem
  have i1 : (0 : Int) < (s.length : Int) := by omega
  have i2 : IntKind.i64.wrap ((s.length : Int) - 1) = ((s.length - 1 : Nat) : Int) := by rw [IntKind.wrap_i64]; omega
  have i3 : ((s.length - 1 : Nat) : Int) < (s.length : Int) := by omega
  obtain ⟨x, hx⟩ : ∃ x, s.getD 0 0 = x := ⟨_, rfl⟩
  rw [hx] at hne c0
  obtain ⟨y, hy⟩ : ∃ x, s.getD (s.length - 1) 0 = x := ⟨_, rfl⟩
  rw [hy] at hne2 cl
  clear hx hy
  obtain ⟨k1, hk1⟩ : ∃ x, s.length - 1 = x := ⟨_, rfl⟩
  rw [hk1] at cl i2 i3
  clear hk1
  go_enter Try.func22, Try.ntmps22
  go_wp2_with (go_at_call 41; refine (rises_is _ s.length c s w HI.out (by omega)).mono ?_; rw [hs]; rintro e w1 ⟨rfl, m, rfl⟩; have c1 := c0 m; have c2 := cl m; have c3 := ct m)
  refine (hasBlock_at (H.out.drawn m) x).mono ?_
  rw [hne.out]
  rintro e w2 ⟨rfl, rfl⟩
  go_wp2_with fail
  refine (hasBlock_at (H.out.drawn m) y).mono ?_
  rw [hne2.out]
  rintro e w2 ⟨rfl, rfl⟩
  go_wp2_with fail
  obtain ⟨M, hM, hT⟩ := H.out.trn
  have hT1 := hT.later (below_drawn m)
  refine (put_high (H.out.drawn m).lt' t (by have := HLT.out; omega) (by omega)).mono ?_
  rintro e w2 ⟨rfl, v', q1, q2, q3⟩
  have HT2 : Hid (Trn w F a.bl w2 { F with tv := v' } (laidQ a.L t s 0) M (tix a.L ++ [t]) t) := (hT1.putT q2 q1 (fun g hg => by
    rcases q3 with e | ⟨g', e, hg'⟩
    · rw [e] at hg; exact .inl hg
    · rw [e] at hg; cases hg; exact .inr hg')).congr (fun i _ => laidQ_zero i)
  have HM2 : Hid (∀ i, i < a.bl → M i ≤ t ∧ ((i : Int) ∉ s.take 0 → M i ≤ a.last)) := fun i hi => ⟨by have := hM i hi; have := HLT.out; omega, fun _ => hM i hi⟩
  clear q1 q2 q3 hM hT hT1 c0 cl ct c1 c2 c3 i1 i2 i3 hne hne2
  go_wp2_with fail
  go_loopw [51] (fun i wr => ∃ k : Nat, k ≤ s.length ∧ i = .int .i64 k ∧ Hid (∃ F' M, Trn w F a.bl wr F' (laidQ a.L t s k) M (tix a.L ++ [t]) t ∧ ∀ i, i < a.bl → M i ≤ t ∧ ((i : Int) ∉ s.take k → M i ≤ a.last))) (fun i _ => s.length - (intOf i).toNat)
  case atStart => exact ⟨0, Nat.zero_le _, rfl, _, _, HT2.out, HM2.out⟩
  case round =>
    obtain ⟨k, hk2, rfl, HW⟩ := hrel
    clear HT2 HM2
    by_cases hlt : k < s.length
    · obtain ⟨F', M', hT, hM⟩ := HW.out
      have hrk := HR.out _ (HMEM.out k hlt)
      obtain ⟨i, hi⟩ : ∃ i : Nat, s.getD k 0 = (i : Int) := ⟨(s.getD k 0).toNat, by omega⟩
      have hib : i < a.bl := by omega
      obtain ⟨hQ1, hQ2⟩ := laidQ_step (L := a.L) (t := t) hlt HU.out hi
      have hnk : (i : Int) ∉ s.take k := fun hm => by
        obtain ⟨j, hj, e⟩ := List.getElem_of_mem hm
        have hj2 : j < k ∧ j < s.length := by simp at hj; omega
        rw [List.getElem_take] at e
        have := (List.pairwise_iff_getElem.1 HU.out) j k hj2.2 hlt hj2.1
        have hg : s[k] = (i : Int) := by rw [← hi]; simp [List.getD, hlt]
        omega
      obtain ⟨b', o', e', hcs⟩ := HI.out.cells h0
      simp only [Option.some.injEq, Addr.mk.injEq, and_true] at e'
      obtain ⟨rfl, rfl⟩ := e'
      have hbW : w.heap[bb]? = wr.heap[bb]? := by
        have hblt := World.block_lt_of_cell? w _ (hcs 0 h0)
        refine (hT.kept.block bb hblt fun e => ?_).symm
        exact HN.out e
      have cs : wr.cell? ⟨bb, o + k, none⟩ = some (.int .i64 (i : Int)) := by
        rw [World.cell?_of_block (w := w) (a := ⟨bb, o + k, none⟩) hbW.symm, hcs k hlt, hi]
      have d0 : wr.cell? ⟨F.Q, 0, none⟩ = some (.slice (some ⟨F.qb, 0, none⟩) a.bl a.bl) := by
        have := cell_of_row _ F'.Q 0 _ 83 (0, 0) hT.pq.st
        rw [hT.fro.Q] at this
        rw [this]; simp [kcells, hT.fro.qb]
      have d1 : wr.cell? ⟨F.qb, i, none⟩ = some (qp (F'.q i)) := by
        have := cell_of_row _ F'.qb i _ 80 (0, 0) hT.pq.qs
        rw [hT.fro.qb] at this
        rw [this]; simp [qrow, hib]
      have HQ : Hid (QAt 101 wr (F'.q i) (F'.v i) (qS a.L i) (M' i)) := by have := hT.pq.lq i hib; rw [hQ1] at this; exact this
      have HM' : Hid (M' i ≤ a.last) := (hM i hib).2 hnk
      have hql : (qS a.L i).length ≤ n := H.out.qlen i
      have HT : Hid (Trn w F a.bl wr F' (laidQ a.L t s k) M' (tix a.L ++ [t]) t ∧ ∀ i, i < a.bl → M' i ≤ t ∧ ((i : Int) ∉ s.take k → M' i ≤ a.last)) := ⟨hT, hM⟩
      have HQ2 : Hid (∀ j, laidQ a.L t s (k + 1) j = upd (laidQ a.L t s k) i (qS a.L i ++ [t]) j) := hQ2
      have HI2 : Hid (s.getD k 0 = (i : Int)) := hi
      clear hT hM hcs hbW hQ1 hQ2 hnk hrk hi HW
      have i4 : (i : Int) < (a.bl : Int) := by omega
      go_wp2_with (go_at_call 43; refine (put_high HQ.out t (by have := HM'.out; have := HLT.out; omega) (by omega)).mono ?_; rintro e w3 ⟨rfl, v3, q1, q2, q3⟩; have HT3 : Hid (Trn w F a.bl w3 { F' with v := upd F'.v i v3 } (laidQ a.L t s (k + 1)) (upd M' i t) (tix a.L ++ [t]) t) := (HT.out.1.put hib q2 q1 (fun g hg => by rcases q3 with e | ⟨g', e, hg'⟩; (rw [e] at hg; exact .inl hg); (rw [e] at hg; cases hg; exact .inr hg'))).congr (fun j _ => HQ2.out j); clear q1 q2 q3)
      go_roundw
      case rel =>
        refine ⟨k + 1, by omega, by go_num, _, _, HT3.out, fun j hj => ?_⟩
        by_cases e : j = i
        · subst e
          rw [upd_same]
          refine ⟨Int.le_refl _, fun hn => absurd ?_ hn⟩
          rw [List.take_succ_eq_append_getElem hlt]
          have hg : s[k] = (j : Int) := by rw [← HI2.out]; simp [List.getD, hlt]
          simp [hg]
        · rw [upd_other _ _ e]
          refine ⟨(HT.out.2 j hj).1, fun hn => (HT.out.2 j hj).2 fun hm => hn ?_⟩
          rw [List.take_succ_eq_append_getElem hlt]
          exact List.mem_append_left _ hm
      case measure => simp [intOf]; omega
    · obtain rfl : k = s.length := by omega
      obtain ⟨F', M', hT, hM⟩ := HW.out
      have HT : Hid (Trn w F a.bl wr F' (fun i => qS (a.L ++ [⟨t, s, 0⟩]) i) M' (tix a.L ++ [t]) t ∧ ∀ i, i < a.bl → M' i ≤ t) := ⟨hT.congr (fun i _ => (laidQ_all i).symm), fun i hi => (hM i hi).1⟩
      have d2 : wr.cell? ⟨F.Q, 2, none⟩ = some (.map (some F.mb)) := by
        have := cell_of_row _ F'.Q 2 _ 83 (0, 0) hT.pq.st
        rw [hT.fro.Q] at this
        rw [this]; simp [kcells, hT.fro.mb]
      have hQlt : F.Q < wr.heap.size := World.block_lt_of_cell? wr _ d2
      have HC2 : Hid (∀ w', Below wr.heap.size wr w' → w'.cell? ⟨F.Q, 2, none⟩ = some (.map (some F.mb))) := fun w' hb => (hb.cell (p := ⟨F.Q, 2, none⟩) hQlt).trans d2
      have HV : Hid (∀ w', Below wr.heap.size wr w' → VMp w' F.mb n F.m) := fun w' hb => ((hT.cm H.out).mp).kept (hb.block _ (hT.cm H.out).mp.lt)
      have HIr : Hid (∀ w', Below wr.heap.size wr w' → B.IIn w' (some ⟨bb, o, none⟩) s.length s) := fun w' hb => by
        have hblt := HI.out.lt h0
        refine B.IIn.later ⟨HI.out.len, fun _ => ?_⟩ hb
        obtain ⟨b', o', e', hcs⟩ := HI.out.cells h0
        refine ⟨b', o', e', fun i hi => ?_⟩
        rw [← hcs i hi]
        simp only [Option.some.injEq, Addr.mk.injEq, and_true] at e'
        obtain ⟨rfl, rfl⟩ := e'
        exact World.cell?_of_block (hT.kept.block bb hblt fun e => HN.out e)
      have HQm : Hid (F.Q ≠ F.mb) := ne_kd H.out.kQ H.out.km (by decide)
      clear HW hT hM d2 hQlt HI
      go_wp2_with fail
      refine wp_region_noPanic ?_
      refine wp_region_held_drew (S := fun w' => w'.cell? ⟨F.Q, 2, none⟩ = some (.map (some F.mb))) (by kernel_rfl) (HC2.out _ (below_drawn 1)) (fun hHeld => ?_)
      have HBd : Hid (Below wr.heap.size wr wr.drew) := below_drawn 1
      generalize wr.drew = wd at *
      refine wpAnyH_take (i := 0) (v := ?va1) (by simp; rfl) (by kernel_rfl) (by kernel_rfl) (by kernel_rfl) (fun _ _ _ h => h) (Or.inl ⟨by rfl, ?ya1⟩) hHeld ?ra1
      case ya1 => intro w hSw; clear hSw; go_simp; with_reducible rfl
      simp only [Act.put, List.setIfInBounds_toArray, List.set_cons_zero, List.set_cons_succ]
      refine wpAnyH_take (i := 1) (v := ?va2) (by simp; rfl) (by kernel_rfl) (by kernel_rfl) (by kernel_rfl) (fun _ _ _ h => h) (Or.inl ⟨by rfl, ?ya2⟩) hHeld ?ra2
      case ya2 => intro w hSw; clear hSw; go_simp; with_reducible rfl
      simp only [Act.put, List.setIfInBounds_toArray, List.set_cons_zero, List.set_cons_succ]
      refine wpAnyH_take (i := 2) (v := ?va3) (by simp; rfl) (by kernel_rfl) (by kernel_rfl) (by kernel_rfl) (fun _ _ _ h => h) (Or.inl ⟨by rfl, ?ya3⟩) hHeld ?ra3
      case ya3 => intro w hSw; clear hSw; go_simp; with_reducible rfl
      simp only [Act.put, List.setIfInBounds_toArray, List.set_cons_zero, List.set_cons_succ]
      refine wpAnyH_take (i := 3) (v := ?va4) (by simp; rfl) (by kernel_rfl) (by kernel_rfl) (by kernel_rfl) (fun _ _ _ h => h) (Or.inl ⟨by rfl, ?ya4⟩) hHeld ?ra4
      case ya4 => intro w hSw; have z := hSw; clear hSw; go_simp; with_reducible rfl
      simp only [Act.put, List.setIfInBounds_toArray, List.set_cons_zero, List.set_cons_succ]
      refine wpAnyH_take (i := 4) (v := ?va5) (by simp; rfl) (by kernel_rfl) (by kernel_rfl) (by kernel_rfl) (fun _ _ _ h => h) (Or.inl ⟨by rfl, ?ya5⟩) hHeld ?ra5
      case ya5 => intro w hSw; clear hSw; go_simp; with_reducible rfl
      simp only [Act.put, List.setIfInBounds_toArray, List.set_cons_zero, List.set_cons_succ]
      refine wpAnyH_take (i := 5) (v := ?va6) (by simp; rfl) (by kernel_rfl) (by kernel_rfl) (by kernel_rfl) (fun _ _ _ h => h) (Or.inl ⟨by rfl, ?ya6⟩) hHeld ?ra6
      case ya6 => intro w hSw; clear hSw; go_simp; with_reducible rfl
      simp only [Act.put, List.setIfInBounds_toArray, List.set_cons_zero, List.set_cons_succ]
      refine wpAnyH_ready (rs := [6]) (by kernel_rfl) (by simp) ?_
      refine AllReadyH.cons (by simp; rfl) (fun Kc hKc => ?_) AllReadyH.nil
      go_simp
      refine (cloneI_at (HIr.out _ HBd.out) hkc hp0 (by omega)).mono ?_
      rintro e w5 ⟨q, d, rfl, hm⟩
      have HM : Hid (B.Made wd w5 q s.length d s) := hm
      clear hm
      have HB5 : Hid (Below wr.heap.size wr w5) := below_then HBd.out HM.out.below
      refine hKc.out _ _ (HC2.out _ HB5.out) (fun hHeld => ?_)
      clear hKc Kc
      refine wpAnyH_take (i := 7) (v := ?va7) (by simp; rfl) (by kernel_rfl) (by kernel_rfl) (by kernel_rfl) (fun _ _ _ h => h) (Or.inl ⟨by rfl, ?ya7⟩) hHeld ?ra7
      case ya7 => intro w hSw; clear hSw; go_simp; with_reducible rfl
      simp only [Act.put, List.setIfInBounds_toArray, List.set_cons_zero, List.set_cons_succ]
      refine wpAnyH_ready (rs := [8]) (by kernel_rfl) (by simp) ?_
      refine AllReadyH.cons (by simp; rfl) (fun Kc hKc => ?_) AllReadyH.nil
      obtain ⟨w6, hrun, hm6, hk6⟩ := (HV.out w5 HB5.out).run_put hn ht (.agg #[.slice q s.length d, .int .i64 0])
      have H6 : Hid (VMp w6 F.mb (n + 1) (fun u => if u = t then some (cv (.slice q s.length d) 0) else F.m u) ∧ Kept (· = F.mb) w5 w6) := ⟨hm6, hk6⟩
      have C6 : Hid (w6.cell? ⟨F.Q, 2, none⟩ = some (.map (some F.mb))) := (World.cell?_of_block (w := w5) (a := ⟨F.Q, 2, none⟩) (hk6.block _ (World.block_lt_of_cell? w5 _ (HC2.out _ HB5.out)) (HQm.out))).trans (HC2.out _ HB5.out)
      clear hm6 hk6 hHeld
      go_simp
      refine hKc.out _ _ C6.out (fun hHeld => ?_)
      clear hKc Kc hHeld hrun
      refine wpAnyH_done (by kernel_rfl) (NoPanic.normal ?_) _
      have HP : Hid (∃ F2, PL w6 F2 (n + 1) ⟨a.bl, t, a.L ++ [⟨t, s, 0⟩]⟩ ∧ Kept (F.has a.bl) w w6 ∧ Grw w w6 a.bl F F2) := H.out.laid HLT.out HOK.out HT.out.1 HT.out.2 HB5.out (Frm.of_made HM.out) (fun g hg => Nat.le_trans (Nat.le_trans HT.out.1.kept.size HBd.out.size) (own_blk HM.out.own hg)) H6.out.1 H6.out.2
      go_wp2_with fail
      go_ret
      exact ⟨rfl, HP.out⟩
end

theorem layE_cases {a : Lk} {t : Int} {s : List Int} : (s = [] ∧ layE a t s = 53) ∨ (s ≠ [] ∧ risS s = false ∧ layE a t s = 53) ∨ (s ≠ [] ∧ risS s = true ∧ (¬ ∀ b ∈ s, 0 ≤ b ∧ b < a.bl) ∧ layE a t s = 51) ∨ (s ≠ [] ∧ risS s = true ∧ (∀ b ∈ s, 0 ≤ b ∧ b < a.bl) ∧ t ≤ a.last ∧ layE a t s = 110) ∨ (s ≠ [] ∧ risS s = true ∧ (∀ b ∈ s, 0 ≤ b ∧ b < a.bl) ∧ a.last < t ∧ layE a t s = 0) := by
  unfold layE
  by_cases h1 : s = []
  · exact .inl ⟨h1, if_pos (.inl h1)⟩
  · refine .inr ?_
    by_cases h2 : s.Pairwise (· < ·)
    · have hr : risS s = true := decide_eq_true h2
      refine .inr ?_
      rw [if_neg (fun e => e.elim h1 (fun e => e h2))]
      by_cases h3 : ∀ b ∈ s, 0 ≤ b ∧ b < a.bl
      · refine .inr ?_
        rw [if_neg (fun e => e h3)]
        by_cases h4 : t ≤ a.last
        · exact .inl ⟨h1, hr, h3, h4, if_pos h4⟩
        · exact .inr ⟨h1, hr, h3, by omega, if_neg h4⟩
      · exact .inl ⟨h1, hr, h3, if_pos h3⟩
    · exact .inl ⟨h1, decide_eq_false h2, if_pos (.inr h2)⟩
section
variable {w : World} {F : Ft} {n : Nat} {a : Lk}
/-- refused -/
theorem lay_bad (h : PL w F n a) (t : Int) {p : Option Addr} {k c : Nat} {s : List Int} (hI : B.IIn w p k s) (hk : k ≤ 140737488355328) (hE : layE a t s ≠ 0) :
    Calls Try.prog 22 #[qp F.Q, .int .u64 t, .slice p k c] w fun e w' => e = .returned (.int .i64 (layE a t s)) ∧ Below w.heap.size w w' := by
  have hlen := hI.len
  have pos : s ≠ [] → 0 < k := fun h1 => by rw [← hlen]; exact List.length_pos_iff.2 h1
  have hmem : ∀ j, j < s.length → s.getD j 0 ∈ s := fun j hj => by rw [List.getD, List.getElem?_eq_getElem hj]; exact List.getElem_mem hj
  rcases layE_cases (a := a) (t := t) (s := s) with ⟨h1, e⟩ | ⟨h1, h2, e⟩ | ⟨h1, h2, h3, e⟩ | ⟨h1, h2, h3, h4, e⟩ | ⟨_, _, _, _, e⟩
  · rw [e]
    subst h1
    obtain rfl : k = 0 := hlen.symm
    exact lay_empty F w t p c
  · rw [e]; exact lay_form F t hI hk (pos h1) h2
  · rw [e]
    cases hb : isB a (s.getD 0 0) with
    | false => exact lay_block0 h t hI hk (pos h1) h2 hb
    | true =>
      cases hb2 : isB a (s.getD (k - 1) 0) with
      | false => exact lay_block1 h t hI hk (pos h1) h2 hb hb2
      | true =>
        exfalso
        have e1 : 0 ≤ s.getD 0 0 ∧ s.getD 0 0 < a.bl := by simpa [isB] using hb
        have e2 : 0 ≤ s.getD (k - 1) 0 ∧ s.getD (k - 1) 0 < a.bl := by simpa [isB] using hb2
        rw [← hlen] at e2
        exact h3 (rng_ends h1 (by simpa [risS] using h2) e1.1 e2.2)
  · rw [e]
    exact lay_low h t hI hk (pos h1) h2 (decide_eq_true (h3 _ (hmem 0 (by rw [hlen]; exact pos h1)))) (decide_eq_true (h3 _ (hmem (k - 1) (by have := pos h1; omega)))) h4
  · exact absurd e hE
/-- Lay -/
theorem lay_at (h : PL w F n a) (hn : n < 10000) (t : Int) (ht : U64 t) {p : Option Addr} {k c : Nat} {s : List Int} (hI : B.IIn w p k s) (hkc : k ≤ c) (hp0 : p = none → c = 0) (hk : k ≤ 140737488355328) (h3 : ∀ ad, p = some ad → kd w ad.block = 3) :
    Calls Try.prog 22 #[qp F.Q, .int .u64 t, .slice p k c] w fun e w' => e = .returned (.int .i64 (layE a t s)) ∧ ∃ F', PL w' F' (n + 1) (layS a t s) ∧ Kept (F.has a.bl) w w' ∧ Grw w w' a.bl F F' := by
  by_cases hE : layE a t s = 0
  · obtain ⟨h1, h2, h4, h5⟩ := layE_zero.1 hE
    have e1 : layS a t s = ⟨a.bl, t, a.L ++ [⟨t, s, 0⟩]⟩ := if_pos hE
    have hl := up_len a.bl 0 s h2 (fun b hb => by have := h4 b hb; omega)
    have hb := h.ok.b64
    have hlen := hI.len
    have hpos := List.length_pos_iff.2 h1
    rw [e1, hE]
    exact lay_ok h hn t ht hI hkc hp0 (by omega) (by omega) (decide_eq_true h2) h4 h5 h3
  · have e1 : layS a t s = a := if_neg hE
    rw [e1]
    refine (lay_bad h t hI hk hE).mono ?_
    rintro e w' ⟨rfl, hb⟩
    exact ⟨rfl, F, (h.later hb).more, Kept.of_below _ hb, Grw.refl _ _ _ _⟩
end
end Go.Proofs.Ytkffmglcllhbmaa
