/-
  Layer 14: the document's Lay.
-/
import Derived.Test.YtkffmglcllhbmaaRf
import Derived.Test.YtkffmglcllhbmaaKb
namespace Go.Proofs.Ytkffmglcllhbmaa
open Go.RowKit

theorem O.FR.later {w w' we : World} {base : Nat} {e : TypeId} {size : Nat} {v : Value} {n : Nat} {xs : List Value} (h : O.FR we w base e size v n xs) (hb : Below w.heap.size w w') : O.FR we w' base e size v n xs := ⟨O.own_later h.own hb, below_then h.below hb, h.new⟩
section
variable {w w' : World} {G : Nat → Prop} {R : Nat} {v : Value} {a : Lk} {es : List Er}
/-- the list with one more -/
theorem rl_laid {wr w3 w7 : World} {t : Int} {s : List Int} {q p3 : Option Addr} {n d c3 : Nat} (h : RL w G R v a es) (hR : ¬ G R) (hb : Below w.heap.size w wr) (h3 : w3 = wr.setCell ⟨R, 1, none⟩ (.int .u64 t)) (hn : n = s.length) (hF : O.FR w3 w7 0 97 3 (.slice p3 (es.length + 1) c3) (es.length + 1) (rcs es ++ [.int .u64 t, .slice q n d, .int .i64 0])) (hq : Frm w7 (.slice q n d) s) (hg : ∀ g, blk (.slice q n d) = some g → w.heap.size ≤ g) :
    RAf w (w7.setCell ⟨R, 2, none⟩ (.slice p3 (es.length + 1) c3)) G R ⟨a.bl, t, a.L ++ [⟨t, s, 0⟩]⟩ := by
  subst hn
  have k3 : Kept (· = R) w w3 := by rw [h3]; exact (Kept.of_below _ hb).trans (Kept.setCell R 1 _) (fun _ _ e => e)
  have st3 : w3.heap[R]? = some (.cells (rcells ⟨a.bl, t, a.L⟩ v) 103 (0, 0)) := by rw [h3, st_set 1 _ (h.later hb).st]; rfl
  have hRl : R < w3.heap.size := (Array.getElem?_eq_some_iff.1 st3).1
  have k7 : Kept (· = R) w w7 := k3.trans (Kept.of_below (fun _ => False) hF.below) (fun _ _ e => e.elim)
  have k8 := Kept.setCell (w := w7) R 2 (.slice p3 (es.length + 1) c3)
  have kk : Kept (· = R) w (w7.setCell ⟨R, 2, none⟩ (.slice p3 (es.length + 1) c3)) := k7.trans k8 (fun _ _ e => e)
  have hwR : R < w.heap.size := h.lt
  have hq8 : Frm (w7.setCell ⟨R, 2, none⟩ (.slice p3 (es.length + 1) c3)) (.slice q s.length d) s := hq.keeps fun g hg' => k8.block g (hq.lt hg').1 (fun e => by have := hg g hg'; omega)
  refine ⟨⟨.slice p3 (es.length + 1) c3, es ++ [⟨t, q, s.length, d, 0⟩], ?_, ?_, ?_, fun g hg' => ?_⟩, kk⟩
  · rw [st_set 2 _ ((hF.below.block R hRl).trans st3)]; rfl
  · rw [List.length_append, rcs_app, rcs_one]
    exact O.own_far hF.own k8 fun g hg' e => by have := hF.new g hg'; omega
  · exact (h.mi.turn hR kk).app ⟨rfl, hq8, fun g hg' => .inr ⟨hg g hg', (hq8.lt hg').1⟩, rfl⟩
  · have h1 := hF.new g hg'
    have h2 := (hF.own.lt g hg').2
    have h3 := k8.size
    have h4 := k3.size
    exact .inr ⟨by omega, by omega⟩
theorem layE_form {t : Int} {s : List Int} (h : s = [] ∨ ¬ s.Pairwise (· < ·)) : layE a t s = 53 := by simp only [layE, if_pos h]
theorem layE_block {t : Int} {s : List Int} (h0 : s ≠ []) (h1 : s.Pairwise (· < ·)) (h2 : ¬ ∀ b ∈ s, 0 ≤ b ∧ b < a.bl) : layE a t s = 51 := by
  have e : ¬ (s = [] ∨ ¬ s.Pairwise (· < ·)) := fun e => e.elim h0 fun e => e h1
  simp only [layE, if_neg e, if_pos h2]
theorem layE_low {t : Int} {s : List Int} (h0 : s ≠ []) (h1 : s.Pairwise (· < ·)) (h2 : ∀ b ∈ s, 0 ≤ b ∧ b < a.bl) (h3 : t ≤ a.last) : layE a t s = 110 := by
  have e : ¬ (s = [] ∨ ¬ s.Pairwise (· < ·)) := fun e => e.elim h0 fun e => e h1
  have e2 : ¬ ¬ ∀ b ∈ s, 0 ≤ b ∧ b < (a.bl : Int) := fun e => e h2
  simp only [layE, if_neg e, if_neg e2, if_pos h3]
theorem rlay_same {t : Int} {s : List Int} (h : RL w G R v a es) (hb : Below w.heap.size w w') {E : Int} (hE : layE a t s = E) (hne : E ≠ 0) : Ending.returned (.int .i64 E) = .returned (.int .i64 (layE a t s)) ∧ RAf w w' G R (layS a t s) := by
  have e2 : layS a t s = a := by unfold layS; rw [if_neg (by rw [hE]; exact hne)]
  rw [hE, e2]
  exact ⟨rfl, RAf.same h hb⟩
set_option maxHeartbeats 8000000 in
set_option maxRecDepth 100000 in
theorem rlay_at (h : RL w G R v a es) (hR : ¬ G R) (ok : Ok a) (hn : a.L.length ≤ 9000) (t : Int) {p : Option Addr} {n c : Nat} {s : List Int} (hI : B.IIn w p n s) (hIR : ∀ ad, p = some ad → 0 < n → ad.block ≠ R) (hk : n ≤ 140737488355328) : Calls Try.prog 61 #[qp R, .int .u64 t, .slice p n c] w fun e w' => e = .returned (.int .i64 (layE a t s)) ∧ RAf w w' G R (layS a t s) := by
  have H : Hid (RL w G R v a es) := h
  have HR : Hid (¬ G R) := hR
  have HH : Hid (B.IIn w p n s) := hI
  have HIR : Hid (∀ ad, p = some ad → 0 < n → ad.block ≠ R) := hIR
  have hle : es.length ≤ 9000 := by rw [h.len]; omega
  have hbl := ok.b64
  obtain ⟨pl, cl, e0, -⟩ := O.own_form h.row
  subst e0
  have hlen := hI.len
  clear h hR hI ok hIR
  by_cases h0 : n = 0
  · subst h0
    have HE : Hid (layE a t s = 53) := layE_form (.inl (List.eq_nil_of_length_eq_zero hlen))
    have i0 : (((0 : Nat) : Int) == 0) = true := rfl
    go_enter Try.func61, Try.ntmps61
    go_wp2
    go_ret
    exact rlay_same H.out (Below.refl _ _) HE.out (by decide)
  have HNE : Hid (s ≠ []) := fun e => h0 (by rw [← hlen, e]; rfl)
  have i0 : ((n : Int) == 0) = false := by rw [beq_eq_false_iff_ne]; omega
  go_enter Try.func61, Try.ntmps61
  go_wp2_with fail
  go_loopw [7] (fun i wr => ∃ k : Nat, (k ≤ n ∨ k = 1) ∧ 1 ≤ k ∧ i = .int .i64 k ∧ Hid (∀ j, j + 1 < k → s.getD j 0 < s.getD (j + 1) 0) ∧ Hid (∃ nq, wr = w.drewN nq)) (fun i _ => n - (intOf i).toNat)
  case atStart => exact ⟨1, .inr rfl, Nat.le_refl _, rfl, fun j hj => absurd hj (by omega), 0, rfl⟩
  case round =>
    obtain ⟨k, hk, hk1, rfl, HT, HW⟩ := hrel
    by_cases hlt : k < n
    · obtain ⟨b, o, rfl, hcs⟩ := HH.out.cells (by omega)
      have hwc : ∀ a : Addr, wr.cell? a = w.cell? a := fun a => by obtain ⟨nq, rfl⟩ := HW.out; rfl
      have c1 : wr.cell? ⟨b, o + k, none⟩ = some (.int .i64 (s.getD k 0)) := (hwc _).trans (hcs k hlt)
      have c2 : wr.cell? ⟨b, o + (k - 1), none⟩ = some (.int .i64 (s.getD (k - 1) 0)) := (hwc _).trans (hcs (k - 1) (by omega))
      have d1 : wr.drew.cell? ⟨b, o + k, none⟩ = some (.int .i64 (s.getD k 0)) := c1
      have d2 : wr.drew.cell? ⟨b, o + (k - 1), none⟩ = some (.int .i64 (s.getD (k - 1) 0)) := c2
      have HN : Hid (s.getD (k - 1) 0 < s.getD k 0 → ∀ j, j + 1 < k + 1 → s.getD j 0 < s.getD (j + 1) 0) := fun e => adj_step HT.out e
      have HY : Hid (¬ s.getD (k - 1) 0 < s.getD k 0 → layE a t s = 53) := fun e => layE_form (.inr fun hp => e (by have := adj_up hp (j := k - 1) (by omega); rwa [show k - 1 + 1 = k by omega] at this))
      have i1 : (k : Int) < (n : Int) := by omega
      have i2 : IntKind.i64.wrap ((k : Int) - 1) = ((k - 1 : Nat) : Int) := by rw [IntKind.wrap_i64]; omega
      have i3 : ((k - 1 : Nat) : Int) < (n : Int) := by omega
      clear hcs hlen HH HT hwc hk
      generalize s.getD k 0 = x at *
      generalize s.getD (k - 1) 0 = y at *
      generalize hkk : k - 1 = k' at *
      by_cases hx : x ≤ y
      · have E : Hid (layE a t s = 53) := HY.out (by omega)
        have HB : Hid (∀ m, Below w.heap.size w (wr.drewN m)) := fun m => by obtain ⟨nq, rfl⟩ := HW.out; rw [World.drewN_drewN]; exact below_drawn _
        clear HN HY
        have hd := decide_eq_true hx
        go_wp2
        go_quiet (fail)
        go_wp2
        go_ret
        exact rlay_same H.out (HB.out _) E.out (by decide)
      · have E : Hid (∀ j, j + 1 < k + 1 → s.getD j 0 < s.getD (j + 1) 0) := HN.out (by omega)
        clear HN HY
        have hd := decide_eq_false hx
        have HW2 : Hid (∀ m, ∃ nq, wr.drewN m = w.drewN nq) := fun m => by obtain ⟨nq, rfl⟩ := HW.out; exact ⟨_, World.drewN_drewN _ _ m⟩
        go_wp2
        go_quiet (fail)
        go_wp2
        go_roundw
        case rel => exact ⟨k + 1, .inl (by omega), by omega, by go_num, E, HW2.out _⟩
        case measure => simp [intOf]; omega
    · have HUP : Hid (s.Pairwise (· < ·)) := up_adj s fun j hj => HT.out j (by omega)
      have i1 : ¬ (k : Int) < (n : Int) := by omega
      go_wp2_with fail
      clear HT
      obtain ⟨wB, hwB⟩ : ∃ x, x = wr := ⟨_, rfl⟩
      subst hwB
      go_loopw [8] (fun i wr => ∃ j : Nat, j ≤ n ∧ i = .int .i64 j ∧ Hid (∀ i, i < j → 0 ≤ s.getD i 0 ∧ s.getD i 0 < a.bl) ∧ Hid (∃ nq, wr = w.drewN nq)) (fun i _ => n - (intOf i).toNat)
      case atStart => exact ⟨0, Nat.zero_le _, rfl, fun j hj => absurd hj (by omega), HW⟩
      case round =>
        clear HW
        obtain ⟨j, hj, rfl, HT, HW⟩ := hrel
        by_cases hlj : j < n
        · obtain ⟨b, o, rfl, hcs⟩ := HH.out.cells (by omega)
          have hwc : ∀ a : Addr, wr.cell? a = w.cell? a := fun a => by obtain ⟨nq, rfl⟩ := HW.out; rfl
          have c1 : wr.cell? ⟨b, o + j, none⟩ = some (.int .i64 (s.getD j 0)) := (hwc _).trans (hcs j hlj)
          have d1 : wr.drew.cell? ⟨b, o + j, none⟩ = some (.int .i64 (s.getD j 0)) := c1
          have c0 : wr.cell? ⟨R, 0, none⟩ = some (.int .i64 a.bl) := (hwc _).trans (H.out.c 0)
          have d0 : wr.drew.cell? ⟨R, 0, none⟩ = some (.int .i64 a.bl) := c0
          have HN : Hid ((0 ≤ s.getD j 0 ∧ s.getD j 0 < a.bl) → ∀ i, i < j + 1 → 0 ≤ s.getD i 0 ∧ s.getD i 0 < a.bl) := fun e => B.bel_step HT.out e
          have HY : Hid (¬ (0 ≤ s.getD j 0 ∧ s.getD j 0 < a.bl) → layE a t s = 51) := fun e => layE_block HNE.out HUP.out (B.bel_not (by omega) e)
          have HB : Hid (∀ m, Below w.heap.size w (wr.drewN m)) := fun m => by obtain ⟨nq, rfl⟩ := HW.out; rw [World.drewN_drewN]; exact below_drawn _
          have j1 : (j : Int) < (n : Int) := by omega
          clear hcs hlen HH HT hwc
          generalize s.getD j 0 = x at *
          by_cases hx0 : x < 0
          · have E : Hid (layE a t s = 51) := HY.out (by omega)
            clear HN HY
            have hd := decide_eq_true hx0
            go_wp2_with fail
            go_quiet (fail)
            go_wp2
            go_ret
            exact rlay_same H.out (HB.out _) E.out (by decide)
          · have hd := decide_eq_false hx0
            by_cases hx1 : (a.bl : Int) ≤ x
            · have E : Hid (layE a t s = 51) := HY.out (by omega)
              clear HN HY
              have hd2 := decide_eq_true hx1
              go_wp2_with fail
              go_quiet (fail)
              go_wp2
              go_ret
              exact rlay_same H.out (HB.out _) E.out (by decide)
            · have E : Hid (∀ i, i < j + 1 → 0 ≤ s.getD i 0 ∧ s.getD i 0 < a.bl) := HN.out (by omega)
              clear HN HY
              have hd2 := decide_eq_false hx1
              have HW2 : Hid (∀ m, ∃ nq, wr.drewN m = w.drewN nq) := fun m => by obtain ⟨nq, rfl⟩ := HW.out; exact ⟨_, World.drewN_drewN _ _ m⟩
              go_wp2_with fail
              go_quiet (fail)
              go_wp2
              go_roundw
              case rel => exact ⟨j + 1, by omega, by go_num, E, HW2.out _⟩
              case measure => simp [intOf]; omega
        · have j1 : ¬ (j : Int) < (n : Int) := by omega
          have HRG : Hid (∀ b ∈ s, 0 ≤ b ∧ b < a.bl) := B.bel_all fun i hi => HT.out i (by omega)
          have HB : Hid (Below w.heap.size w wr) := by obtain ⟨nq, rfl⟩ := HW.out; exact below_drawn _
          have hR1 : Hid (RL wr G R (.slice pl es.length cl) a es) := H.out.later HB.out
          have c1 : wr.cell? ⟨R, 1, none⟩ = some (.int .u64 a.last) := hR1.out.c 1
          clear HT HW
          by_cases ht : t ≤ a.last
          · have E : Hid (layE a t s = 110) := layE_low HNE.out HUP.out HRG.out ht
            have hd := decide_eq_true ht
            go_wp2
            go_ret
            exact rlay_same H.out HB.out E.out (by decide)
          · have hd := decide_eq_false ht
            have E : Hid (layE a t s = 0 ∧ layS a t s = ⟨a.bl, t, a.L ++ [⟨t, s, 0⟩]⟩) := by
              have e0 : layE a t s = 0 := layE_zero.2 ⟨HNE.out, HUP.out, HRG.out, by omega⟩
              exact ⟨e0, by unfold layS; rw [if_pos e0]⟩
            have hn64 : n ≤ 64 := by
              have := up_len a.bl 0 s HUP.out (fun b hb => by have := HRG.out b hb; omega)
              omega
            have f1 : wr.frozen? ⟨R, 1, none⟩ = false := hR1.out.free 1
            have S3 : Hid ((wr.setCell ⟨R, 1, none⟩ (.int .u64 t)).heap[R]? = some (.cells (rcells ⟨a.bl, t, a.L⟩ (.slice pl es.length cl)) 103 (0, 0))) := by show _ = _; rw [st_set 1 _ hR1.out.st]; rfl
            have r3 : Hid ((wr.setCell ⟨R, 1, none⟩ (.int .u64 t)).ownsRow 0 97 3 (.slice pl es.length cl) es.length (rcs es)) := O.own_far hR1.out.row (Kept.setCell R 1 _) fun g hg e => HR.out (by have := hR1.out.g g hg; rwa [e] at this)
            have I3 : Hid (B.IIn (wr.setCell ⟨R, 1, none⟩ (.int .u64 t)) p n s) := by
              refine ⟨HH.out.len, fun h0 => ?_⟩
              obtain ⟨b, o, rfl, hc⟩ := HH.out.cells h0
              refine ⟨b, o, rfl, fun i hi => ?_⟩
              have hx := (HH.out.later HB.out).cells h0
              obtain ⟨b', o', e, hc'⟩ := hx
              cases e
              have hcx := hc' i hi
              have hneq : b ≠ R := HIR.out _ rfl (by omega)
              exact (World.cell?_of_block (w := wr) (a := ⟨b, o + i, none⟩) ((Kept.setCell (w := wr) R 1 (.int .u64 t)).block b (World.block_lt_of_cell? wr _ hcx) hneq)).trans hcx
            obtain ⟨w3, hw3⟩ : ∃ w3, w3 = wr.setCell ⟨R, 1, none⟩ (.int .u64 t) := ⟨_, rfl⟩
            have HW3 : Hid (w3 = wr.setCell ⟨R, 1, none⟩ (.int .u64 t)) := hw3
            rw [← hw3] at S3 r3 I3
            have HS3 : Hid (w.heap.size ≤ w3.heap.size) := by have h1 := HB.out.size; have h2 := (Kept.setCell (w := wr) R 1 (.int .u64 t)).size; rw [← hw3] at h2; exact Nat.le_trans h1 h2
            have HFIN : Hid (∀ (w7 : World) (q p3 : Option Addr) (d c3 : Nat), O.FR w3 w7 0 97 3 (.slice p3 (es.length + 1) c3) (es.length + 1) (rcs es ++ [.int .u64 t, .slice q n d, .int .i64 0]) → Frm w7 (.slice q n d) s → (∀ g, blk (.slice q n d) = some g → w.heap.size ≤ g) → RAf w (w7.setCell ⟨R, 2, none⟩ (.slice p3 (es.length + 1) c3)) G R (layS a t s)) := fun w7 q p3 d c3 h1 h2 h3 => by rw [E.out.2]; exact rl_laid H.out HR.out HB.out HW3.out HH.out.len.symm h1 h2 h3
            clear hw3 hlen HUP HRG HNE hR1
            have d2 : w3.cell? ⟨R, 2, none⟩ = some (.slice pl es.length cl) := cell_of_row _ R 2 _ 103 (0, 0) S3.out
            have hR3 : Hid (R < w3.heap.size) := (Array.getElem?_eq_some_iff.1 S3.out).1
            have F0 : Hid (O.FR w3 (w3.alloc (.cells #[] 97)) 0 97 3 (.slice (some ⟨w3.heap.size, 0, none⟩) 0 0) 0 []) := O.FR.empty 97 3 (Below.refl _ _) (Nat.zero_le _)
            have e2 : (w3.alloc (.cells #[] 97)).cell? ⟨R, 2, none⟩ = some (.slice pl es.length cl) := ((below_alloc w3 _).cell (p := ⟨R, 2, none⟩) hR3.out).trans d2
            obtain ⟨bI, oI, rfl, -⟩ := HH.out.cells (by omega)
            have HLI : Hid ((B.I64 s).length = n * 1) := by show _ = _; rw [B.I64_length, HH.out.len]; omega
            clear HH HIR
            go_upto_region 16 with fail
            rw [← HW3.out]
            clear c1 f1
            go_wp2_with (at_builtin; (first
              | (refine O.wpList_own_any rfl (.tmp 61) (.tmp 65) O.elE rfl rfl F0.out.own rfl (O.own_later r3.out F0.out.below) (ones_r es) (by omega) (Nat.zero_le _) ?_; intro v1 w5 ho hk hv; have F1 : Hid (O.FR w3 w5 0 97 3 v1 es.length (rcs es)) := (by have h := F0.out.app ho hk hv; rw [Nat.zero_add, List.nil_append] at h; exact h); clear ho hk hv; obtain ⟨p1, c1, ef⟩ := O.own_shape F1.out.own; subst ef)
              | (refine O.wpList_own (v := .slice (some ⟨w5.heap.size, 0, none⟩) 0 0) (n := 0) (base := 0) rfl (.tmp 68) (.tmp 69) O.elI rfl rfl (O.own_empty w5 (Nat.zero_le _)) ⟨bI, oI, none⟩ n c (B.I64 s) rfl HLI.out ((I3.out.later (below_then F1.out.below (below_alloc w5 _))).news) (B.ones_i64 s) (by omega) (Nat.zero_le _) ?_; intro v2 w6 ho hk hv; have F2 : Hid (O.FR w5 w6 0 3 1 v2 n (B.I64 s)) := (by have h := (O.FR.empty (base := 0) 3 1 (Below.refl _ w5) (Nat.zero_le _)).app ho hk hv; rw [Nat.zero_add, List.nil_append] at h; exact h); clear ho hk hv; obtain ⟨q2, d2', ef⟩ := O.own_shape F2.out.own; subst ef; have F1b : Hid (O.FR w3 w6 0 97 3 (.slice p1 es.length c1) es.length (rcs es)) := F1.out.later F2.out.below)
              | (refine O.wpList_own_any (v := .slice p1 es.length c1) (u := .slice (some ⟨w6.heap.size, 0, none⟩) 1 1) (n := es.length) (m := 1) (base := 0) (base' := 0) rfl (.tmp 66) (.tmp 72) O.elE rfl rfl (F1b.out.later (below_alloc w6 _)).own rfl (O.own_one (base := 0) (cs := [.int .u64 t, .slice q2 n d2', .int .i64 0]) w6 rfl (Nat.zero_le _)) (ones_r [⟨t, q2, n, d2', 0⟩]) (by omega) (Nat.zero_le _) ?_; intro v3 w7 ho hk hv; have F3 : Hid (O.FR w3 w7 0 97 3 v3 (es.length + 1) (rcs es ++ [.int .u64 t, .slice q2 n d2', .int .i64 0])) := (F1b.out.later (below_alloc w6 _)).app ho hk hv; have HQ : Hid (w7.ownsRow 0 3 1 (.slice q2 n d2') n (B.I64 s)) := O.own_far (O.own_later F2.out.own (below_alloc w6 _)) hk (fun g hg e => by have h1 := F2.out.new g hg; have h2 := (F1.out.own.lt g e).2; omega); clear ho hk hv; obtain ⟨p3, c3, ef⟩ := O.own_shape F3.out.own; subst ef; have g2 : w7.cell? ⟨R, 2, none⟩ = some (.slice pl es.length cl) := (F3.out.below.cell (p := ⟨R, 2, none⟩) hR3.out).trans d2; have S7 : Hid (w7.heap[R]? = some (.cells (rcells ⟨a.bl, t, a.L⟩ (.slice pl es.length cl)) 103 (0, 0))) := (F3.out.below.block R hR3.out).trans S3.out; have f2 : w7.frozen? ⟨R, 2, none⟩ = false := by simp [World.frozen?, S7.out])))
            go_ret
            refine ⟨by rw [E.out.1]; rfl, HFIN.out w7 q2 p3 d2' c3 F3.out ?_ ?_⟩
            · have := HQ.out
              show World.ownsRow _ _ _ _ _ _ _
              rw [I3.out.len]; exact this
            · intro g hg
              rw [O.blk_own] at hg
              have h1 := F2.out.new g hg
              have h2 := F1.out.below.size
              have h3 := HS3.out
              omega
end
end Go.Proofs.Ytkffmglcllhbmaa
