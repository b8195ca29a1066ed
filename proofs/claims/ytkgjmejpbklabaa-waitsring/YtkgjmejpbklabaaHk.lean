/-
  Layer 15: the document's Heights.
-/
import Derived.Test.YtkgjmejpbklabaaHi
import Derived.Test.YtkgjmejpbklabaaGy
namespace Go.Proofs.Ytkgjmejpbklabaa
open Go.RowKit

open B (IIn I64)
theorem getDN_set_le (f : List Nat) (a x v M : Nat) (h : f.getD x 0 ≤ M) (hv : v ≤ M) : (f.set a v).getD x 0 ≤ M := by
  rw [getDN_set]
  by_cases e : a = x ∧ a < f.length
  · rw [if_pos e]; exact hv
  · rw [if_neg e]; exact h
theorem maxw {fa fb : Nat} (h : fb ≤ 41000000) : max (fa : Int) (wrap64 ((fb : Int) + 1)) = ((max fa (fb + 1) : Nat) : Int) := by
  have : wrap64 ((fb : Int) + 1) = (fb : Int) + 1 := by unfold wrap64; omega
  rw [this]; omega
/-- after r rounds and i edges: held against all heights -/
def HA (es : List (Int × Int)) (ts : List Int) (N r i : Nat) (h : List Nat) : Prop := ∀ H, Hgt (Er es ts) N H → Hri N H r (pls ts es) i h
theorem HA.put {es : List (Int × Int)} {ts : List Int} {N r i a b : Nat} {h : List Nat} (ha : HA es ts N r i h) (hl : h.length = N) (hi : (pls ts es)[i]? = some (a, b)) (hE : Er es ts a b) (haN : a < N) (hbN : b < N) : HA es ts N r (i + 1) (h.set a (max (h.getD a 0) (h.getD b 0 + 1))) := fun H hH =>
  (ha H hH).put hl hi haN hbN ((hH a haN).1 b hE)
theorem HA.next {es : List (Int × Int)} {ts : List Int} {N r : Nat} {h : List Nat} (hup : ts.Pairwise (· < ·)) (ha : HA es ts N r (pls ts es).length h) : HA es ts N (r + 1) 0 h := fun H hH =>
  ((ha H hH).next (fun _ _ hE => hE.pls hup) hH).turn
theorem HA.start {es : List (Int × Int)} {ts : List Int} {N : Nat} : HA es ts N 0 0 (List.replicate N 0) := fun _ _ => Hro.start.turn
set_option maxHeartbeats 2000000 in
set_option maxRecDepth 100000 in
theorem rheights_at {w : World} {p : Option Addr} {n c : Nat} {es : List Eg} (hE : EIn w p n es) (hz : n ≤ 4500) :
    Calls Try.prog 12 #[.slice p n c] w fun e w' => RowKit.Below w.heap.size w w' ∧ ∃ (ts : List Int) (N : Nat), (ts.Pairwise (· < ·) ∧ ∀ x, x ∈ ts ↔ ∃ e ∈ egs es, x = e.1 ∨ x = e.2) ∧ ts.length = N ∧
      ((e = .returned (.tuple #[.slice none 0 0, .slice none 0 0, .int .i64 2]) ∧ ∃ x, OnR (Er (egs es) ts) x) ∨
       ((∀ x, ¬ OnR (Er (egs es) ts) x) ∧ N ≤ 9000 ∧ ∃ (q : Option Addr) (d g : Nat) (hs : List Nat), e = .returned (.tuple #[.slice q N d, .slice (some ⟨g, 0, none⟩) N N, .int .i64 0]) ∧ w'.ownsRow w.heap.size 25 1 (.slice q N d) N (U64 ts) ∧ w'.ownsRow w.heap.size 3 1 (.slice (some ⟨g, 0, none⟩) N N) N (I64 (nz hs)) ∧ hs.length = N ∧ ∀ H, Hgt (Er (egs es) ts) N H → (∀ x, x < N → H x ≤ N) → ∀ x, x < N → hs.getD x 0 = H x)) := by
  have HE : Hid (∀ W, RowKit.Below w.heap.size w W → EIn W p n es) := fun W hW => hE.later hW
  have HL : Hid (es.length = n) := hE.len
  go_enter Try.func12, Try.ntmps12
  go_wp2_with fail
  refine (rring_at hE hz).mono ?_
  rintro e w1 ⟨q1, c1, l, ts, rfl, -, hb1, hup, hRI⟩
  have HB1 : Hid (RowKit.Below w.heap.size w w1) := hb1
  have HUP : Hid (ts.Pairwise (· < ·) ∧ ∀ x, x ∈ ts ↔ ∃ e ∈ egs es, x = e.1 ∨ x = e.2) := hup
  have HRI : Hid (RingIs (Er (egs es) ts) l) := hRI
  clear hE hb1 hup hRI
  by_cases hl : 0 < l.length
  · have HX : Hid (∃ x, OnR (Er (egs es) ts) x) := by
      apply Classical.byContradiction
      intro hc
      have := HRI.out.nil_iff.2 fun x hx => hc ⟨x, hx⟩
      rw [this] at hl
      simp at hl
    generalize l.length = L at *
    go_wp2_with fail
    go_ret3
    exact ⟨HB1.out, ts, _, HUP.out, rfl, .inl ⟨rfl, HX.out⟩⟩
  · have HX : Hid (∀ x, ¬ OnR (Er (egs es) ts) x) := HRI.out.nil_iff.1 (List.eq_nil_of_length_eq_zero (by omega))
    have hl0 : l.length = 0 := by omega
    rw [hl0]
    clear hl hl0 HRI
    go_wp2_with fail
    refine (rtickets_at (HE.out w1 HB1.out) hz).mono ?_
    rintro e w2 ⟨q, d, ts2, rfl, ho2, hb2, hup2, hm2, htl⟩
    obtain rfl : ts = ts2 := up_one HUP.out.1 hup2 fun x => by rw [HUP.out.2, hm2]
    obtain ⟨N, hN⟩ : ∃ N, ts.length = N := ⟨_, rfl⟩
    rw [hN] at ho2 ⊢
    have hN9 : N ≤ 9000 := by omega
    have HM : Hid (ts.length = N) := hN
    have HB2 : Hid (RowKit.Below w.heap.size w w2) := below_then HB1.out hb2
    have HU : Hid (∀ W, RowKit.Below w2.heap.size w2 W → UIn W q N ts) := fun W hW => (uin_of_own ho2).later hW
    have HO2 : Hid (∀ W, RowKit.Below w2.heap.size w2 W → W.ownsRow w.heap.size 25 1 (.slice q N d) N (U64 ts)) := fun W hW => B.own_mono (O.own_later ho2 hW) HB1.out.size
    clear ho2 hb2 hup2 hm2 hN htl
    have hmk := fun w => make_ints w N (by omega)
    go_wp2_with fail
    clear hmk
    have HB3 : Hid (RowKit.Below w2.heap.size w2 (w2.alloc (Obj.cells (Array.replicate N (Value.int .i64 0)) 3))) := below_alloc w2 _
    have HO3 : Hid ((w2.alloc (Obj.cells (Array.replicate N (Value.int .i64 0)) 3)).ownsRow w2.heap.size 3 1 (.slice (some ⟨w2.heap.size, 0, none⟩) N N) N (I64 (nz (List.replicate N 0)))) := by
      have := own_all w2 3 (List.replicate N (Value.int .i64 0)) N (by simp) (by omega) (base := w2.heap.size) (Nat.le_refl _)
      rw [show (List.replicate N (Value.int .i64 0)).toArray = Array.replicate N (Value.int .i64 0) by simp] at this
      show World.ownsRow _ _ _ _ _ _ _
      rw [show I64 (nz (List.replicate N 0)) = List.replicate N (Value.int .i64 0) by simp [I64, nz]]
      exact this
    generalize (w2.alloc (Obj.cells (Array.replicate N (Value.int .i64 0)) 3)) = W0 at HB3 HO3 ⊢
    obtain ⟨g, eg⟩ : ∃ g, w2.heap.size = g := ⟨_, rfl⟩
    have hgw : w2.heap.size ≤ g := by omega
    rw [eg] at HO3 ⊢
    rw [← eg] at HO3
    have HO1 : Hid (W0.ownsRow w2.heap.size 3 1 (.slice (some ⟨g, 0, none⟩) N N) N (I64 (nz (List.replicate N 0)))) := by
      have := HO3.out
      rw [eg] at this ⊢
      exact this
    clear HO3 eg
    go_loopw [7] (fun v W => ∃ (r : Nat) (f : List Nat), v = .int .i64 (r : Int) ∧ r ≤ N ∧ Hid (RowKit.Below w2.heap.size w2 W) ∧ Hid (W.ownsRow w2.heap.size 3 1 (.slice (some ⟨g, 0, none⟩) N N) N (I64 (nz f))) ∧ Hid (f.length = N ∧ HA (egs es) ts N r 0 f ∧ ∀ x, f.getD x 0 ≤ r * n)) (fun v _ => N - (intV v).toNat)
    case atStart => exact ⟨0, _, rfl, by omega, HB3, HO1, by simp, HA.start, fun x => by by_cases h : x < N <;> simp [List.getD, h]⟩
    case round =>
      clear HB3 HO1
      obtain ⟨r, f, rfl, hr, HB, HO, HF⟩ := hrel
      by_cases hrN : r < N
      · go_wp2_with fail
        go_loopw [8] (fun v W => ∃ (i : Nat) (f : List Nat), v = .int .i64 (i : Int) ∧ i ≤ n ∧ Hid (RowKit.Below w2.heap.size w2 W) ∧ Hid (W.ownsRow w2.heap.size 3 1 (.slice (some ⟨g, 0, none⟩) N N) N (I64 (nz f))) ∧ Hid (f.length = N ∧ HA (egs es) ts N r i f ∧ ∀ x, f.getD x 0 ≤ r * n + i)) (fun v _ => n - (intV v).toNat)
        case atStart => exact ⟨0, f, rfl, by omega, HB, HO, HF⟩
        case round =>
          clear HB HO HF
          obtain ⟨i, f, rfl, hi, HB, HO, HF⟩ := hrel
          by_cases hin : i < n
          · obtain ⟨a, b, hab, hA, hB, hEr⟩ := pls_get HL.out HUP.out.2 hin
            obtain ⟨eb, eo, rfl, hcs⟩ := (HE.out wr (below_then HB2.out HB.out)).cells (by omega)
            obtain ⟨h1, h2, -, -⟩ := hcs i hin
            have haN : a < N := by rw [← HM.out]; exact hEr.lt.1
            have hbN : b < N := by rw [← HM.out]; exact hEr.lt.2
            have HI1 : Hid (∀ k, Calls Try.prog 18 #[.slice q N d, .int .u64 (es.getD i noEg).f] (wr.drewN k) fun e w' => e = .returned (.int .i64 (a : Int)) ∧ w' = wr.drewN k) := fun k => index_at (HU.out _ (HB.out.trans (below_dr _ _ k))) (by omega) HUP.out.1 hA
            have HI2 : Hid (∀ k, Calls Try.prog 18 #[.slice q N d, .int .u64 (es.getD i noEg).t] (wr.drewN k) fun e w' => e = .returned (.int .i64 (b : Int)) ∧ w' = wr.drewN k) := fun k => index_at (HU.out _ (HB.out.trans (below_dr _ _ k))) (by omega) HUP.out.1 hB
            have HF2 : Hid ((f.set a (max (f.getD a 0) (f.getD b 0 + 1))).length = N ∧ HA (egs es) ts N r (i + 1) (f.set a (max (f.getD a 0) (f.getD b 0 + 1))) ∧ ∀ x, (f.set a (max (f.getD a 0) (f.getD b 0 + 1))).getD x 0 ≤ r * n + (i + 1)) := by
              refine ⟨by simp [HF.out.1], HF.out.2.1.put HF.out.1 hab hEr haN hbN, fun x => getDN_set_le _ _ _ _ _ ?_ ?_⟩
              · have := HF.out.2.2 x; omega
              · have := HF.out.2.2 a
                have := HF.out.2.2 b
                omega
            have hmul : r * n ≤ 9000 * 4500 := Nat.mul_le_mul (by omega) hz
            have hvb : f.getD b 0 ≤ 41000000 := by have := HF.out.2.2 b; omega
            have hva : f.getD a 0 ≤ 41000000 := by have := HF.out.2.2 a; omega
            clear hcs hab hA hB hEr hmul
            generalize es.getD i noEg = ed at *
            obtain ⟨ef, et, ey, ebk⟩ := ed
            simp only at h1 h2 HI1 HI2
            go_wp2_with fail
            go_quiet (first | (go_at_call 18; with_reducible refine Calls.quiet_of_same (HI1.out _)) | (go_at_call 18; with_reducible refine Calls.quiet_of_same (HI2.out _)))
            generalize hW1 : wr.drewN nq = W1 at *
            have HB4 : Hid (RowKit.Below w2.heap.size w2 W1) := by rw [← hW1]; exact HB.out.trans (below_dr _ _ nq)
            have HO4 : Hid (W1.ownsRow w2.heap.size 3 1 (.slice (some ⟨g, 0, none⟩) N N) N (I64 (nz f))) := by
              show World.ownsRow _ _ _ _ _ _ _
              rw [← hW1]; exact O.own_later HO.out (below_dr _ _ nq)
            clear hW1 HI1 HI2 HB HO h1 h2
            have hcb : W1.cell? ⟨g, b, none⟩ = some (.int .i64 ((f.getD b 0 : Nat) : Int)) := O.own_cell HO4.out (nzI_get (by have := HF.out.1; omega))
            have hca : W1.cell? ⟨g, a, none⟩ = some (.int .i64 ((f.getD a 0 : Nat) : Int)) := O.own_cell HO4.out (nzI_get (by have := HF.out.1; omega))
            have hfa : W1.frozen? ⟨g, a, none⟩ = false := O.own_free HO4.out a
            have HO5 : Hid (((W1.setCell ⟨g, a, none⟩ (.int .i64 ((max (f.getD a 0) (f.getD b 0 + 1) : Nat) : Int))).drewN 1).ownsRow w2.heap.size 3 1 (.slice (some ⟨g, 0, none⟩) N N) N (I64 (nz (f.set a (max (f.getD a 0) (f.getD b 0 + 1)))))) := by
              have := O.own_set HO4.out (g := g) rfl a (.int .i64 ((max (f.getD a 0) (f.getD b 0 + 1) : Nat) : Int))
              rw [I64_set, nz_set] at this
              exact O.own_later this (below_dr _ _ 1)
            have HB5 : Hid (RowKit.Below w2.heap.size w2 ((W1.setCell ⟨g, a, none⟩ (.int .i64 ((max (f.getD a 0) (f.getD b 0 + 1) : Nat) : Int))).drewN 1)) := (HB4.out.setCell hgw _).trans (below_dr _ _ 1)
            have HV : Hid (max ((f.getD a 0 : Nat) : Int) (wrap64 (((f.getD b 0 : Nat) : Int) + 1)) = ((max (f.getD a 0) (f.getD b 0 + 1) : Nat) : Int)) := maxw hvb
            clear hva hvb
            generalize f.getD a 0 = fa at *
            generalize f.getD b 0 = fb at *
            go_wp2_with fail
            go_region
            all_goals
              go_wp2_with fail
              go_roundw
              case rel => exact ⟨i + 1, f.set a (max fa (fb + 1)), rfl, by omega, by rw [HV.out]; exact HB5, by rw [HV.out]; exact HO5, HF2⟩
              case measure => simp [intV]; omega
          · have HF2 : Hid (f.length = N ∧ HA (egs es) ts N (r + 1) 0 f ∧ ∀ x, f.getD x 0 ≤ (r + 1) * n) := by
              have hi' : i = n := by omega
              refine ⟨HF.out.1, ?_, fun x => by have := HF.out.2.2 x; rw [hi'] at this; rw [Nat.succ_mul]; exact this⟩
              have h1 := HF.out.2.1
              rw [show i = (pls ts (egs es)).length by simp [pls, egs]; have := HL.out; omega] at h1
              exact h1.next HUP.out.1
            go_wp2_with fail
            go_roundw
            case rel => exact ⟨r + 1, f, rfl, by omega, HB, HO, HF2⟩
            case measure => simp [intV]; omega
      · have hr' : r = N := by omega
        have HFZ : Hid (f.length = N ∧ ∀ H, Hgt (Er (egs es) ts) N H → (∀ x, x < N → H x ≤ N) → ∀ x, x < N → f.getD x 0 = H x) := ⟨HF.out.1, fun H h1 h2 x hx => by
          have := (HF.out.2.1 H h1).toHro
          rw [hr'] at this
          exact this.all h2 x hx⟩
        clear hr'
        go_wp2_with fail
        go_ret3
        exact ⟨below_then HB2.out HB.out, ts, N, HUP.out, HM.out, .inr ⟨HX.out, hN9, q, d, g, f, rfl, HO2.out _ HB.out, B.own_mono HO.out HB2.out.size, HFZ.out.1, HFZ.out.2⟩⟩
end Go.Proofs.Ytkgjmejpbklabaa
