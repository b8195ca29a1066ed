/-
  Layer 15: flood.
-/
import Derived.Test.YtkgjmejpbklabaaGa
namespace Go.Proofs.Ytkgjmejpbklabaa
open Go.RowKit

open B (IIn I64)

theorem own_fg {w : World} {bF fb c n : Nat} {f : List Nat} (h : w.ownsRow bF 3 1 (.slice (some ⟨fb, 0, none⟩) n c) n (I64 (nz f))) : f.length = n ∧ ∀ t, t < n → w.cell? ⟨fb, t, none⟩ = some (.int .i64 ((fg f t : Nat) : Int)) := by
  have hl : f.length = n := by have := h.1; simpa [nz_length] using this
  refine ⟨hl, fun t ht => ?_⟩
  rw [O.own_cell h (nzI_get (by omega))]
  simp [fg, List.getD, show t < f.length by omega]
theorem own_put {w : World} {bF fb c n : Nat} {f : List Nat} (h : w.ownsRow bF 3 1 (.slice (some ⟨fb, 0, none⟩) n c) n (I64 (nz f))) (t x : Nat) :
    (w.setCell ⟨fb, t, none⟩ (.int .i64 (x : Int))).ownsRow bF 3 1 (.slice (some ⟨fb, 0, none⟩) n c) n (I64 (nz (f.set t x))) := by
  have := O.own_set h (g := fb) rfl t (.int .i64 (x : Int))
  rw [I64_set, nz_set] at this
  exact this
set_option maxHeartbeats 2000000 in
set_option maxRecDepth 100000 in
theorem flood_at {S : Nat → Prop} {w : World} {tv nv : Value} {bk : List (List Nat)} {bF fb c n r : Nat} {f0 : List Nat} (hn : bk.length = n) (hz : n ≤ 9000) (hNX : NIn S w nv bk) (hwf : ∀ i v, v ∈ bk.getD i [] → v < n) (hrl : ∀ i, (bk.getD i []).length ≤ 9000)
    (hF : w.ownsRow bF 3 1 (.slice (some ⟨fb, 0, none⟩) n c) n (I64 (nz f0))) (hS : ¬ S fb) (hr : r < n) (hu : fg f0 r = NW) :
    Calls Try.prog 25 #[.agg #[tv, nv], .int .i64 r, .slice (some ⟨fb, 0, none⟩) n c] w fun e w' => ∃ p cq q f, e = .returned (.slice p q.length cq) ∧ w'.ownsRow w.heap.size 3 1 (.slice p q.length cq) q.length (I64 (nz q)) ∧
      w'.ownsRow bF 3 1 (.slice (some ⟨fb, 0, none⟩) n c) n (I64 (nz f)) ∧ Kept (· = fb) w w' ∧ Flo bk f0 r q f := by
  have hfb : fb < w.heap.size := (hF.lt fb rfl).2
  have hc0 := (own_fg hF).2
  have hf0 := O.own_free hF
  go_enter Try.func25, Try.ntmps25
  go_wp2_with fail
  have hK0 : Kept (· = fb) w (((w.setCell ⟨fb, r, none⟩ (.int .i64 0)).alloc (Obj.cells #[tv, nv] 56)).alloc (Obj.cells #[Value.int .i64 (r : Int)] 3)) :=
    ((Kept.setCell (w := w) fb r (.int .i64 0)).trans (Kept.of_below (· = fb) (below_alloc _ _)) fun _ _ h => h).trans (Kept.of_below (· = fb) (below_alloc _ _)) fun _ _ h => h
  have HK0 : Hid (Kept (· = fb) w (((w.setCell ⟨fb, r, none⟩ (.int .i64 0)).alloc (Obj.cells #[tv, nv] 56)).alloc (Obj.cells #[Value.int .i64 (r : Int)] 3))) := hK0
  have HF0 : Hid ((((w.setCell ⟨fb, r, none⟩ (.int .i64 0)).alloc (Obj.cells #[tv, nv] 56)).alloc (Obj.cells #[Value.int .i64 (r : Int)] 3)).ownsRow bF 3 1 (.slice (some ⟨fb, 0, none⟩) n c) n (I64 (nz (f0.set r 0)))) :=
    O.own_later (O.own_later (own_put hF r 0) (below_alloc _ _)) (below_alloc _ _)
  have HG0 : Hid (GBx (((w.setCell ⟨fb, r, none⟩ (.int .i64 0)).alloc (Obj.cells #[tv, nv] 56)).alloc (Obj.cells #[Value.int .i64 (r : Int)] 3)) w.heap.size tv nv) := by
    have := (GBx.new (w.setCell ⟨fb, r, none⟩ (.int .i64 0)) tv nv).later (below_alloc _ (Obj.cells #[Value.int .i64 (r : Int)] 3))
    rw [show (w.setCell ⟨fb, r, none⟩ (.int .i64 0)).heap.size = w.heap.size by simp] at this
    exact this
  have HQ0 : Hid ((((w.setCell ⟨fb, r, none⟩ (.int .i64 0)).alloc (Obj.cells #[tv, nv] 56)).alloc (Obj.cells #[Value.int .i64 (r : Int)] 3)).ownsRow w.heap.size 3 1 (.slice (some ⟨w.heap.size + 1, 0, none⟩) 1 1) 1 (I64 (nz [r]))) := by
    have := O.own_one (base := w.heap.size) (size := 1) (e := 3) (cs := [Value.int .i64 (r : Int)]) ((w.setCell ⟨fb, r, none⟩ (.int .i64 0)).alloc (Obj.cells #[tv, nv] 56)) rfl (by simp)
    rw [show ((w.setCell ⟨fb, r, none⟩ (.int .i64 0)).alloc (Obj.cells #[tv, nv] 56)).heap.size = w.heap.size + 1 by simp] at this
    exact this
  generalize (((w.setCell ⟨fb, r, none⟩ (.int .i64 0)).alloc (Obj.cells #[tv, nv] 56)).alloc (Obj.cells #[Value.int .i64 (r : Int)] 3)) = W0 at HK0 HF0 HG0 HQ0 ⊢
  have hl0 := (own_fg hF).1
  have HD0 : Hid (Fld bk f0 r [r] (f0.set r 0) 0) := Fld.begin (by omega) (by omega) hu
  obtain ⟨g, cg, enx, hrow⟩ := hNX.row
  rw [hn] at enx
  subst enx
  have HROW : Hid (∀ i, i < n → ∃ p k, ∀ W : World, Kept (· = fb) w W → W.cell? ⟨g, i, none⟩ = some (.slice p (bk.getD i []).length k) ∧ IIn W p (bk.getD i []).length (nz (bk.getD i []))) := fun i hi => by
    obtain ⟨p, k, h⟩ := hrow i (by omega)
    exact ⟨p, k, fun W hW => h W fun k hk hlt => hW.block k hlt fun e => hS (e ▸ hk)⟩
  have hnw : bk.length < NW := by unfold NW; omega
  have HNN : Hid (bk.length = n) := hn
  clear hK0 hc0 hf0 hrow hNX hn
  go_loopw [7, 8] (fun v7 v8 W => ∃ (p : Option Addr) (cq i : Nat) (q f : List Nat), v7 = .slice p q.length cq ∧ v8 = .int .i64 i ∧ i ≤ q.length ∧ Hid (W.ownsRow w.heap.size 3 1 (.slice p q.length cq) q.length (I64 (nz q))) ∧
      Hid (W.ownsRow bF 3 1 (.slice (some ⟨fb, 0, none⟩) n c) n (I64 (nz f))) ∧ Hid (Kept (· = fb) w W) ∧ Hid (GBx W w.heap.size tv (.slice (some ⟨g, 0, none⟩) n cg)) ∧ Hid (Fld bk f0 r q f i)) (fun v7 v8 _ => n - (intV v8).toNat)
  case atStart => exact ⟨_, 1, 0, [r], f0.set r 0, rfl, rfl, by omega, HQ0, HF0, HK0, HG0, HD0⟩
  case round =>
    obtain ⟨p, cq, i, q, f, rfl, rfl, hi, HQ, HF, HK, HG, HD⟩ := hrel
    have hqn : q.length ≤ n := by have := HD.out.small; have := HNN.out; omega
    by_cases hiq : i < q.length
    · obtain ⟨t, ht⟩ : ∃ t, q[i]? = some t := ⟨q[i], by rw [List.getElem?_eq_getElem hiq]⟩
      have htn : t < n := by have := (HD.out.un t (List.mem_of_getElem? ht)).2; have := HNN.out; omega
      have HT : Hid (q[i]? = some t) := ht
      obtain ⟨gq, cq', eq, _, hcq, _⟩ := O.own_some HQ.out (by omega)
      simp only [Value.slice.injEq] at eq
      obtain ⟨rfl, _, rfl⟩ := eq
      have hct : wr.cell? ⟨gq, i, none⟩ = some (.int .i64 (t : Int)) := hcq i _ (by rw [nzI_get hiq]; simp [List.getD, ht])
      have hc1 := HG.out.c1
      obtain ⟨pr, kr, hrow⟩ := HROW.out t htn
      obtain ⟨hcr, hIr⟩ := hrow wr HK.out
      have HRW : Hid (∀ W : World, Kept (· = fb) w W → IIn W pr (bk.getD t []).length (nz (bk.getD t []))) := fun W hW => (hrow W hW).2
      have HFI : Hid (Fli bk f0 r q f i t 0) := HD.out.turn ht
      clear hcq hrow ht hIr HD
      have HWF : Hid (∀ v, v ∈ bk.getD t [] → v < n) := hwf t
      obtain ⟨row, hR⟩ : ∃ row, row = bk.getD t [] := ⟨_, rfl⟩
      have HR : Hid (bk.getD t [] = row) := hR.symm
      have hrl2 : row.length ≤ 9000 := by rw [hR]; exact hrl t
      rw [← hR] at HRW HWF hcr
      clear hR
      go_wp2_with fail
      clear hct hc1 hcr
      have htq : t ∈ q := List.mem_of_getElem? HT.out
      go_loopw [7, 33] (fun v7 v33 W => ∃ (p : Option Addr) (cq j : Nat) (q f : List Nat), v7 = .slice p q.length cq ∧ v33 = .int .i64 j ∧ j ≤ row.length ∧ Hid (W.ownsRow w.heap.size 3 1 (.slice p q.length cq) q.length (I64 (nz q))) ∧
          Hid (W.ownsRow bF 3 1 (.slice (some ⟨fb, 0, none⟩) n c) n (I64 (nz f))) ∧ Hid (Kept (· = fb) w W) ∧ Hid (GBx W w.heap.size tv (.slice (some ⟨g, 0, none⟩) n cg)) ∧ Hid (Fli bk f0 r q f i t j)) (fun v7 v33 _ => row.length - (intV v33).toNat)
      case atStart => exact ⟨_, cq, 0, q, f, rfl, rfl, by omega, HQ, HF, HK, HG, HFI⟩
      case round =>
        obtain ⟨p2, cq2, j, q2, f2, rfl, rfl, hj, HQ2, HF2, HK2, HG2, HFI2⟩ := hrel
        have hqn2 : q2.length ≤ n := by have := HFI2.out.small; have := HNN.out; omega
        by_cases hjr : j < row.length
        · obtain ⟨u, hu2⟩ : ∃ u, row[j]? = some u := ⟨row[j], by rw [List.getElem?_eq_getElem hjr]⟩
          have hun : u < n := HWF.out u (List.mem_of_getElem? hu2)
          have HU : Hid ((bk.getD t [])[j]? = some u) := by show _ = _; rw [HR.out]; exact hu2
          obtain ⟨rb, ro, rfl, hcr⟩ := (HRW.out wr HK2.out).cells (by omega)
          have hcu : wr.cell? ⟨rb, ro + j, none⟩ = some (.int .i64 (u : Int)) := by rw [hcr j hjr, nz_getD]; simp [List.getD, hu2]
          have hfc := (own_fg HF2.out).2
          have hcf : wr.cell? ⟨fb, u, none⟩ = some (.int .i64 ((fg f2 u : Nat) : Int)) := hfc u hun
          have hct : wr.cell? ⟨fb, t, none⟩ = some (.int .i64 ((fg f2 t : Nat) : Int)) := hfc t htn
          have hff : wr.frozen? ⟨fb, u, none⟩ = false := O.own_free HF2.out u
          have hlt : fg f2 t < n := by have := HFI2.out.lt (List.mem_of_getElem? HFI2.out.cur); have := HNN.out; omega
          clear hcr hfc hu2
          obtain ⟨x, hx⟩ : ∃ x, x = fg f2 u := ⟨_, rfl⟩
          obtain ⟨d, hd⟩ : ∃ d, d = fg f2 t := ⟨_, rfl⟩
          rw [← hd] at hct hlt
          rw [← hx] at hcf
          have HDD : Hid (d = fg f2 t) := hd
          have HXX : Hid (x = fg f2 u) := hx
          clear hd hx
          by_cases hnwu : x = NW
          · have HN : Hid (fg f2 u = NW) := by show _ = _; rw [← HXX.out]; exact hnwu
            have hcf2 : wr.cell? ⟨fb, u, none⟩ = some (.int .i64 9223372036854775807) := by rw [hcf, hnwu]; rfl
            clear hnwu hcf
            have hKs : Kept (· = fb) wr (wr.setCell ⟨fb, u, none⟩ (.int .i64 ((d : Int) + 1))) := Kept.setCell fb u _
            have hnb : ∀ x, (Value.slice p2 q2.length cq2).ownBlock = some x → x ≠ fb := fun x hx e => by have := (HQ2.out.lt x hx).1; omega
            have HQ3 : Hid ((wr.setCell ⟨fb, u, none⟩ (.int .i64 ((d : Int) + 1))).ownsRow w.heap.size 3 1 (.slice p2 q2.length cq2) q2.length (I64 (nz q2))) := O.own_far HQ2.out hKs hnb
            have HF3 : Hid ((wr.setCell ⟨fb, u, none⟩ (.int .i64 ((d : Int) + 1))).ownsRow bF 3 1 (.slice (some ⟨fb, 0, none⟩) n c) n (I64 (nz (f2.set u (d + 1))))) := own_put HF2.out u (d + 1)
            have HK3 : Hid (Kept (· = fb) w (wr.setCell ⟨fb, u, none⟩ (.int .i64 ((d : Int) + 1)))) := HK2.out.trans hKs fun _ _ h => h
            have HG3 : Hid (GBx (wr.setCell ⟨fb, u, none⟩ (.int .i64 ((d : Int) + 1))) w.heap.size tv (.slice (some ⟨g, 0, none⟩) n cg)) := HG2.out.far hKs (by omega)
            have HNB : Hid (∀ x, (Value.slice p2 q2.length cq2).ownBlock = some x → x ≠ fb) := hnb
            have hw2 : w.heap.size ≤ (wr.setCell ⟨fb, u, none⟩ (.int .i64 ((d : Int) + 1))).heap.size := HK3.out.size
            have HW2 : Hid (w.heap.size ≤ (wr.setCell ⟨fb, u, none⟩ (.int .i64 ((d : Int) + 1))).heap.size) := hw2
            clear hKs hnb hw2
            go_wp2_with (at_builtin; refine O.wpList_one rfl (.tmp 50) (.tmp 52) O.elI rfl rfl HQ3.out _ rfl (by simp) rfl (by omega) HW2.out ?_; intro p3 c3 w3 ho hk _; have HO : Hid (w3.ownsRow w.heap.size 3 1 (.slice p3 (q2.length + 1) c3) (q2.length + 1) (I64 (nz q2) ++ [.int .i64 (u : Int)])) := ho; have HKK : Hid (Kept (fun b => (Value.slice p2 q2.length cq2).ownBlock = some b) (wr.setCell ⟨fb, u, none⟩ (.int .i64 ((d : Int) + 1))) w3) := hk; clear ho hk)
            go_roundw
            case rel =>
              have e1 : (q2 ++ [u]).length = q2.length + 1 := by simp
              have e2 : I64 (nz (q2 ++ [u])) = I64 (nz q2) ++ [.int .i64 (u : Int)] := by simp [nz, I64]
              refine ⟨p3, c3, j + 1, q2 ++ [u], f2.set u (d + 1), by rw [e1], rfl, by omega, by rw [e1, e2]; exact HO, O.own_far HF3.out HKK.out fun x hx hc => ?_, HK3.out.trans HKK.out fun x hx hc => ?_, HG3.out.far HKK.out fun hc => ?_, ?_⟩
              · simp [Value.ownBlock] at hx; subst hx; exact HNB.out _ hc rfl
              · exact absurd (HQ3.out.lt x hc).1 (by omega)
              · exact O.own_not HQ3.out HG3.out (by decide) hc
              · have := HFI2.out.add hnw HU.out (by have := HNN.out; omega) HN.out
                rw [← HDD.out] at this
                exact this
            case measure => simp [intV]; omega
          · have hnwI : ¬ (x : Int) = 9223372036854775807 := by unfold NW at hnwu; omega
            have HS : Hid (Fli bk f0 r q2 f2 i t (j + 1)) := HFI2.out.skip HU.out (by rw [← HXX.out]; exact hnwu)
            go_wp2_with fail
            go_roundw
            case rel => exact ⟨p2, cq2, j + 1, q2, f2, rfl, rfl, by omega, HQ2, HF2, HK2, HG2, HS⟩
            case measure => simp [intV]; omega
        · have hje : j = row.length := by omega
          have HNX : Hid (Fld bk f0 r q2 f2 (i + 1)) := by
            have := HFI2.out
            rw [hje, ← HR.out] at this
            exact this.next
          have hiq2 : i < q2.length := (List.getElem?_eq_some_iff.1 HFI2.out.cur).1
          clear hje
          go_wp2_with fail
          go_roundw
          case rel => exact ⟨p2, cq2, i + 1, q2, f2, rfl, rfl, by omega, HQ2, HF2, HK2, HG2, HNX⟩
          case measure => simp [intV]; omega
    · go_wp2_with fail
      go_ret
      have hie : i = q.length := by omega
      refine ⟨p, cq, q, f, rfl, HQ.out, HF.out, HK.out, ?_⟩
      have := HD.out
      rw [hie] at this
      exact this.done
end Go.Proofs.Ytkgjmejpbklabaa
