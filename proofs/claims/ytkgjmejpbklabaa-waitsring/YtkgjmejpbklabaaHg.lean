/-
  Layer 15: the document's Far.
-/
import Derived.Test.YtkgjmejpbklabaaHf
import Derived.Test.YtkgjmejpbklabaaGx
import Derived.BigRegion
namespace Go.Proofs.Ytkgjmejpbklabaa
open Go.RowKit

open B (IIn I64)
/-- an edge between places -/
def Er (es : List (Int × Int)) (ts : List Int) (u v : Nat) : Prop := ∃ e ∈ es, ts[u]? = some e.1 ∧ ts[v]? = some e.2
/-- where the edges lead -/
def pls (ts : List Int) (es : List (Int × Int)) : List (Nat × Nat) := es.map fun e => (ts.findIdx (· == e.1), ts.findIdx (· == e.2))
theorem find_at {ts : List Int} {x : Int} (h : x ∈ ts) : ts[ts.findIdx (· == x)]? = some x := by
  have h1 : ts.findIdx (· == x) < ts.length := List.findIdx_lt_length_of_exists ⟨x, h, by simp⟩
  rw [List.getElem?_eq_getElem h1]
  have := List.findIdx_getElem (xs := ts) (p := (· == x)) (w := h1)
  simpa using this
theorem Er.pls {es : List (Int × Int)} {ts : List Int} (hup : ts.Pairwise (· < ·)) {u v : Nat} (h : Er es ts u v) : (u, v) ∈ pls ts es := by
  obtain ⟨e, he, h1, h2⟩ := h
  refine List.mem_map.2 ⟨e, he, ?_⟩
  have m1 := find_at (List.mem_of_getElem? h1)
  have m2 := find_at (List.mem_of_getElem? h2)
  rw [up_at hup m1 h1, up_at hup m2 h2]
theorem Er.lt {es : List (Int × Int)} {ts : List Int} {u v : Nat} (h : Er es ts u v) : u < ts.length ∧ v < ts.length := by
  obtain ⟨e, _, h1, h2⟩ := h
  exact ⟨(List.getElem?_eq_some_iff.1 h1).1, (List.getElem?_eq_some_iff.1 h2).1⟩
theorem pls_get {es : List Eg} {ts : List Int} {n i : Nat} (hl : es.length = n) (hm : ∀ x, x ∈ ts ↔ ∃ e ∈ egs es, x = e.1 ∨ x = e.2) (hi : i < n) : ∃ a b, (pls ts (egs es))[i]? = some (a, b) ∧ ts[a]? = some (es.getD i noEg).f ∧ ts[b]? = some (es.getD i noEg).t ∧ Er (egs es) ts a b := by
  have hmem := (es_get hl hi).2
  have hp : (es.getD i noEg).pr ∈ egs es := List.mem_map.2 ⟨_, hmem, rfl⟩
  have h1 := find_at ((hm (es.getD i noEg).f).2 ⟨_, hp, .inl rfl⟩)
  have h2 := find_at ((hm (es.getD i noEg).t).2 ⟨_, hp, .inr rfl⟩)
  refine ⟨_, _, ?_, h1, h2, _, hp, h1, h2⟩
  have : i < es.length := by omega
  simp [pls, egs, List.getD, List.getElem?_eq_getElem this, Eg.pr]
set_option maxHeartbeats 2000000 in
set_option maxRecDepth 100000 in
theorem far_at {w : World} {p q : Option Addr} {n c N d t : Nat} {es : List Eg} {ts : List Int} {x : Int} (hE : EIn w p n es) (hz : n ≤ 4500) (hU : UIn w q N ts) (hN : N ≤ 9000) (hup : ts.Pairwise (· < ·)) (hm : ∀ x, x ∈ ts ↔ ∃ e ∈ egs es, x = e.1 ∨ x = e.2) (ht : ts[t]? = some x) :
    Calls Try.prog 17 #[.slice p n c, .slice q N d, .int .u64 x] w fun e w' => ∃ (g : Nat) (f : List Int), e = .returned (.slice (some ⟨g, 0, none⟩) N N) ∧ w'.ownsRow w.heap.size 3 1 (.slice (some ⟨g, 0, none⟩) N N) N (I64 f) ∧ RowKit.Below w.heap.size w w' ∧ Fro (Er (egs es) ts) t N f := by
  have HE : Hid (∀ W, RowKit.Below w.heap.size w W → EIn W p n es) := fun W hW => hE.later hW
  have HU : Hid (∀ W, RowKit.Below w.heap.size w W → UIn W q N ts) := fun W hW => hU.later hW
  have HL : Hid (es.length = n) := hE.len
  have HM : Hid (ts.length = N) := hU.len
  have htN : t < N := by rw [← hU.len]; exact (List.getElem?_eq_some_iff.1 ht).1
  have HTX : Hid (∀ j, j < N → (ts.getD j 0 = x ↔ j = t)) := fun j hj => by
    have h1 : ts[j]? = some (ts.getD j 0) := by
      have := hU.len
      rw [List.getElem?_eq_getElem (by omega)]
      simp [List.getD, List.getElem?_eq_getElem (show j < ts.length by omega)]
    constructor
    · intro e; rw [e] at h1; exact up_at hup h1 ht
    · rintro rfl; rw [ht] at h1; exact (Option.some.inj h1).symm
  have HUP : Hid (ts.Pairwise (· < ·) ∧ ∀ x, x ∈ ts ↔ ∃ e ∈ egs es, x = e.1 ∨ x = e.2) := ⟨hup, hm⟩
  have hmk := fun w => make_ints w N (by omega)
  clear hE hU hup hm ht
  go_enter Try.func17, Try.ntmps17
  go_wp2_with fail
  clear hmk
  have HB0 : Hid (RowKit.Below w.heap.size w (w.alloc (Obj.cells (Array.replicate N (Value.int .i64 0)) 3))) := below_alloc w _
  have HO0 : Hid ((w.alloc (Obj.cells (Array.replicate N (Value.int .i64 0)) 3)).ownsRow w.heap.size 3 1 (.slice (some ⟨w.heap.size, 0, none⟩) N N) N (I64 (List.replicate N 0))) := by
    have := own_all w 3 (List.replicate N (Value.int .i64 0)) N (by simp) (by omega) (base := w.heap.size) (Nat.le_refl _)
    rw [show (List.replicate N (Value.int .i64 0)).toArray = Array.replicate N (Value.int .i64 0) by simp] at this
    show World.ownsRow _ _ _ _ _ _ _
    rw [show I64 (List.replicate N 0) = List.replicate N (Value.int .i64 0) by simp [I64]]
    exact this
  generalize (w.alloc (Obj.cells (Array.replicate N (Value.int .i64 0)) 3)) = W0 at HB0 HO0 ⊢
  obtain ⟨g, eg⟩ : ∃ g, w.heap.size = g := ⟨_, rfl⟩
  have hgw : w.heap.size ≤ g := by omega
  rw [eg] at HO0 ⊢
  rw [← eg] at HO0
  have HO1 : Hid (W0.ownsRow w.heap.size 3 1 (.slice (some ⟨g, 0, none⟩) N N) N (I64 (List.replicate N 0))) := by
    have := HO0.out
    rw [eg] at this ⊢
    exact this
  clear HO0 eg
  go_loopw [18] (fun v W => ∃ (i : Nat) (f : List Int), v = .int .i64 (i : Int) ∧ i ≤ N ∧ Hid (RowKit.Below w.heap.size w W) ∧ Hid (W.ownsRow w.heap.size 3 1 (.slice (some ⟨g, 0, none⟩) N N) N (I64 f)) ∧ Hid (f.length = N ∧ ∀ x, x < i → f.getD x (-1) = if x = t then 0 else -1)) (fun v _ => N - (intV v).toNat)
  case atStart => exact ⟨0, _, rfl, by omega, HB0, HO1, by simp, fun x hx => by omega⟩
  case round =>
    obtain ⟨i, f, rfl, hi, HB, HO, HF⟩ := hrel
    by_cases hin : i < N
    · obtain ⟨ub, uo, rfl, hcs⟩ := (HU.out wr HB.out).cells (by omega)
      have hui : ub < w.heap.size := by
        have := (HU.out w (RowKit.Below.refl _ _)).lt (a := ⟨ub, uo, none⟩) (by omega)
        exact this
      have hcu := hcs i hin
      have htx := HTX.out i hin
      have hci : wr.cell? ⟨g, i, none⟩ = some (.int .i64 (f.getD i 0)) := O.own_cell HO.out (I64_get (by have := HF.out.1; omega))
      have hfi : wr.frozen? ⟨g, i, none⟩ = false := O.own_free HO.out i
      have HO2 : Hid ((wr.setCell ⟨g, i, none⟩ (.int .i64 (-1))).ownsRow w.heap.size 3 1 (.slice (some ⟨g, 0, none⟩) N N) N (I64 (f.set i (-1)))) := by
        have := O.own_set HO.out (g := g) rfl i (.int .i64 (-1))
        rw [I64_set] at this
        exact this
      have HB2 : Hid (RowKit.Below w.heap.size w (wr.setCell ⟨g, i, none⟩ (.int .i64 (-1)))) := HB.out.setCell hgw _
      have hcu2 : (wr.setCell ⟨g, i, none⟩ (.int .i64 (-1))).cell? ⟨ub, uo + i, none⟩ = some (.int .u64 (ts.getD i 0)) := by
        rw [World.cell?_of_block (w := wr) (a := ⟨ub, uo + i, none⟩) (RowKit.Below.heap_setCell _ _ _ _ (by simp; omega))]
        exact hcu
      have HF2 : Hid ((f.set i (-1)).length = N ∧ (f.set i (-1)).getD i (-1) = -1 ∧ ∀ x, x < i → (f.set i (-1)).getD x (-1) = if x = t then 0 else -1) := by
        refine ⟨by simp [HF.out.1], ?_, fun y hy => ?_⟩
        · rw [getDI_set]; by_cases h : i = i ∧ i < f.length
          · rw [if_pos h]
          · rw [if_neg h]; have := HF.out.1; omega
        · rw [getDI_set, if_neg (fun h => by omega)]; exact HF.out.2 y hy
      clear hcs hcu
      go_upto_region 6 with fail
      clear hci hfi
      generalize f.set i (-1) = f2 at *
      generalize (wr.setCell ⟨g, i, none⟩ (.int .i64 (-1))) = W2 at *
      by_cases hit : i = t
      · have hx := htx.2 hit
        rw [hx] at hcu2
        have hci2 : W2.cell? ⟨g, i, none⟩ = some (.int .i64 (f2.getD i 0)) := O.own_cell HO2.out (I64_get (by have := HF2.out.1; omega))
        have hfi2 : W2.frozen? ⟨g, i, none⟩ = false := O.own_free HO2.out i
        have HO3 : Hid ((W2.setCell ⟨g, i, none⟩ (.int .i64 0)).ownsRow w.heap.size 3 1 (.slice (some ⟨g, 0, none⟩) N N) N (I64 (f2.set i 0))) := by
          have := O.own_set HO2.out (g := g) rfl i (.int .i64 0)
          rw [I64_set] at this
          exact this
        have HB3 : Hid (RowKit.Below w.heap.size w (W2.setCell ⟨g, i, none⟩ (.int .i64 0))) := HB2.out.setCell hgw _
        have HF3 : Hid ((f2.set i 0).length = N ∧ ∀ x, x < i + 1 → (f2.set i 0).getD x (-1) = if x = t then 0 else -1) := by
          refine ⟨by simp [HF2.out.1], fun y hy => ?_⟩
          rw [getDI_set]
          by_cases e : i = y
          · rw [if_pos ⟨e, by have := HF2.out.1; omega⟩, if_pos (by omega)]
          · rw [if_neg (fun h => e h.1)]; exact HF2.out.2.2 y (by omega)
        clear hx htx hit
        generalize f2.getD i 0 = fz at *
        go_wp2_with fail
        go_roundw
        case rel => exact ⟨i + 1, _, rfl, by omega, HB3, HO3, HF3⟩
        case measure => simp [intV]; omega
      · have hne : ¬ ts.getD i 0 = x := fun h => hit (htx.1 h)
        have HF3 : Hid (f2.length = N ∧ ∀ x, x < i + 1 → f2.getD x (-1) = if x = t then 0 else -1) := by
          refine ⟨HF2.out.1, fun y hy => ?_⟩
          by_cases e : y = i
          · rw [e, HF2.out.2.1, if_neg hit]
          · exact HF2.out.2.2 y (by omega)
        clear htx hit
        generalize ts.getD i 0 = y at *
        go_wp2_with fail
        go_roundw
        case rel => exact ⟨i + 1, f2, rfl, by omega, HB2, HO2, HF3⟩
        case measure => simp [intV]; omega
    · have HFR : Hid (Fro (Er (egs es) ts) t 0 f) := by
        refine Fro.start (N := N) htN fun y => ?_
        by_cases hy : y < N
        · rw [HF.out.2 y (by omega)]
          by_cases e : y = t
          · rw [if_pos e, if_pos ⟨e, hy⟩]
          · rw [if_neg e, if_neg (fun h => e h.1)]
        · rw [if_neg (fun h => hy h.2), List.getD, List.getElem?_eq_none (by have := HF.out.1; omega)]; rfl
      have HFL : Hid (f.length = N) := HF.out.1
      clear HF HTX HB0 HO1
      go_wp2_with fail
      go_loopw [9] (fun v W => ∃ (r : Nat) (f : List Int), v = .int .i64 ((r : Int) + 1) ∧ r ≤ N ∧ Hid (RowKit.Below w.heap.size w W) ∧ Hid (W.ownsRow w.heap.size 3 1 (.slice (some ⟨g, 0, none⟩) N N) N (I64 f)) ∧ Hid (f.length = N ∧ Fro (Er (egs es) ts) t r f)) (fun v _ => N + 1 - (intV v).toNat)
      case atStart => exact ⟨0, f, rfl, by omega, HB, HO, HFL.out, HFR.out⟩
      case round =>
        clear HB HO HFR HFL
        obtain ⟨r, f, rfl, hr, HB, HO, HF⟩ := hrel
        by_cases hrN : r < N
        · have HF0 : Hid (f.length = N ∧ Fri (Er (egs es) ts) t r (pls ts (egs es)) 0 f) := ⟨HF.out.1, HF.out.2.turn⟩
          go_wp2_with fail
          go_loopw [10] (fun v W => ∃ (i : Nat) (f : List Int), v = .int .i64 (i : Int) ∧ i ≤ n ∧ Hid (RowKit.Below w.heap.size w W) ∧ Hid (W.ownsRow w.heap.size 3 1 (.slice (some ⟨g, 0, none⟩) N N) N (I64 f)) ∧ Hid (f.length = N ∧ Fri (Er (egs es) ts) t r (pls ts (egs es)) i f)) (fun v _ => n - (intV v).toNat)
          case atStart => exact ⟨0, f, rfl, by omega, HB, HO, HF0⟩
          case round =>
            clear HB HO HF HF0
            obtain ⟨i, f, rfl, hi, HB, HO, HF⟩ := hrel
            by_cases hin : i < n
            · obtain ⟨a, b, hab, hA, hB, hEr⟩ := pls_get HL.out HUP.out.2 hin
              obtain ⟨eb, eo, rfl, hcs⟩ := (HE.out wr HB.out).cells (by omega)
              obtain ⟨h1, h2, -, -⟩ := hcs i hin
              have haN : a < N := by rw [← HM.out]; exact hEr.lt.1
              have hbN : b < N := by rw [← HM.out]; exact hEr.lt.2
              have HAB : Hid ((pls ts (egs es))[i]? = some (a, b) ∧ Er (egs es) ts a b) := ⟨hab, hEr⟩
              have HI1 : Hid (∀ W, RowKit.Below w.heap.size w W → Calls Try.prog 18 #[.slice q N d, .int .u64 (es.getD i noEg).f] W fun e w' => e = .returned (.int .i64 (a : Int)) ∧ w' = W) := fun W hW => index_at (HU.out W hW) (by omega) HUP.out.1 hA
              have HI2 : Hid (∀ W, RowKit.Below w.heap.size w W → Calls Try.prog 18 #[.slice q N d, .int .u64 (es.getD i noEg).t] W fun e w' => e = .returned (.int .i64 (b : Int)) ∧ w' = W) := fun W hW => index_at (HU.out W hW) (by omega) HUP.out.1 hB
              clear hcs hab hA hB hEr
              generalize es.getD i noEg = ed at *
              obtain ⟨ef, et, ey, ebk⟩ := ed
              simp only at h1 h2 HI1 HI2
              have HQ1 : Hid (∀ k, Calls Try.prog 18 #[.slice q N d, .int .u64 ef] (wr.drewN k) fun e w' => e = .returned (.int .i64 (a : Int)) ∧ w' = wr.drewN k) := fun k => HI1.out _ (HB.out.trans (below_dr _ _ k))
              have HQ2 : Hid (∀ k, Calls Try.prog 18 #[.slice q N d, .int .u64 et] (wr.drewN k) fun e w' => e = .returned (.int .i64 (b : Int)) ∧ w' = wr.drewN k) := fun k => HI2.out _ (HB.out.trans (below_dr _ _ k))
              have hrN1 : (r : Int) + 1 ≤ (N : Int) := by omega
              clear HI1 HI2
              go_wp2_with fail
              go_quiet (first | (go_at_call 18; with_reducible refine Calls.quiet_of_same (HQ1.out _)) | (go_at_call 18; with_reducible refine Calls.quiet_of_same (HQ2.out _)))
              generalize hW1 : wr.drewN nq = W1 at *
              have HB1 : Hid (RowKit.Below w.heap.size w W1) := by rw [← hW1]; exact HB.out.trans (below_dr _ _ nq)
              have HO1 : Hid (W1.ownsRow w.heap.size 3 1 (.slice (some ⟨g, 0, none⟩) N N) N (I64 f)) := by
                show World.ownsRow _ _ _ _ _ _ _
                rw [← hW1]; exact O.own_later HO.out (below_dr _ _ nq)
              clear hW1 HQ1 HQ2 HB HO h1 h2
              have hfl := HF.out.1
              have hgD : ∀ y, y < N → f.getD y 0 = f.getD y (-1) := fun y hy => by
                simp [List.getD, List.getElem?_eq_getElem (show y < f.length by omega)]
              have hcb : W1.cell? ⟨g, b, none⟩ = some (.int .i64 (f.getD b (-1))) := by rw [← hgD b hbN]; exact O.own_cell HO1.out (I64_get (by omega))
              have hca : W1.cell? ⟨g, a, none⟩ = some (.int .i64 (f.getD a (-1))) := by rw [← hgD a haN]; exact O.own_cell HO1.out (I64_get (by omega))
              have hfa : W1.frozen? ⟨g, a, none⟩ = false := O.own_free HO1.out a
              clear hgD
              by_cases hnote : f.getD b (-1) = r ∧ f.getD a (-1) < 0
              · have HF2 : Hid ((f.set a ((r + 1 : Nat) : Int)).length = N ∧ Fri (Er (egs es) ts) t r (pls ts (egs es)) (i + 1) (f.set a ((r + 1 : Nat) : Int))) := ⟨by simp [hfl], HF.out.2.note HAB.out.1 HAB.out.2 hnote.1 hnote.2 (by omega)⟩
                have HO2 : Hid ((W1.setCell ⟨g, a, none⟩ (.int .i64 ((r : Int) + 1))).ownsRow w.heap.size 3 1 (.slice (some ⟨g, 0, none⟩) N N) N (I64 (f.set a ((r + 1 : Nat) : Int)))) := by
                  have := O.own_set HO1.out (g := g) rfl a (.int .i64 ((r : Int) + 1))
                  rw [I64_set] at this
                  show World.ownsRow _ _ _ _ _ _ _
                  rw [show ((r + 1 : Nat) : Int) = (r : Int) + 1 by omega]
                  exact this
                have HB2 : Hid (RowKit.Below w.heap.size w (W1.setCell ⟨g, a, none⟩ (.int .i64 ((r : Int) + 1)))) := HB1.out.setCell hgw _
                obtain ⟨hn1, hn2⟩ := hnote
                rw [hn1] at hcb
                clear hn1 HF
                generalize f.getD a (-1) = fa at *
                go_wp2_with fail
                go_roundw
                case rel => exact ⟨i + 1, _, rfl, by omega, HB2, HO2, HF2⟩
                case measure => simp [intV]; omega
              · have HF2 : Hid (f.length = N ∧ Fri (Er (egs es) ts) t r (pls ts (egs es)) (i + 1) f) := ⟨hfl, HF.out.2.skip HAB.out.1 (fun e => by
                  by_cases h0 : f.getD a (-1) < 0
                  · exact absurd ⟨e, h0⟩ hnote
                  · omega)⟩
                by_cases hb1 : f.getD b (-1) = r
                · have ha1 : ¬ f.getD a (-1) < 0 := fun h => hnote ⟨hb1, h⟩
                  rw [hb1] at hcb
                  clear hb1 hnote HF
                  generalize f.getD a (-1) = fa at *
                  go_wp2_with fail
                  go_roundw
                  case rel => exact ⟨i + 1, f, rfl, by omega, HB1, HO1, HF2⟩
                  case measure => simp [intV]; omega
                · clear hnote HF
                  generalize f.getD a (-1) = fa at *
                  generalize f.getD b (-1) = fbv at *
                  have hbe : (fbv == (r : Int)) = false := by rw [beq_eq_false_iff_ne]; exact hb1
                  go_wp2_with fail
                  go_roundw
                  case rel => exact ⟨i + 1, f, rfl, by omega, HB1, HO1, HF2⟩
                  case measure => simp [intV]; omega
            · have HF2 : Hid (f.length = N ∧ Fro (Er (egs es) ts) t (r + 1) f) := by
                refine ⟨HF.out.1, ?_⟩
                have := HF.out.2
                rw [show i = (pls ts (egs es)).length by simp [pls, egs]; have := HL.out; omega] at this
                exact this.next fun u v h => h.pls HUP.out.1
              have hrN1 : (r : Int) + 1 ≤ (N : Int) := by omega
              go_wp2_with fail
              go_roundw
              case rel => exact ⟨r + 1, f, by congr 1, by omega, HB, HO, HF2⟩
              case measure => simp [intV]; omega
        · go_wp2_with fail
          go_ret
          refine ⟨g, f, rfl, HO.out, HB.out, ?_⟩
          have := HF.out.2
          rwa [show r = N by omega] at this
end Go.Proofs.Ytkgjmejpbklabaa
