/-
  Layer 15: the document's Ring.
-/
import Derived.Test.YtkgjmejpbklabaaHh
namespace Go.Proofs.Ytkgjmejpbklabaa
open Go.RowKit

open B (IIn I64)
/-- of the first k edges from x the shortest way back: an edge, and then the shortest one from there -/
def Bst (l : List (Nat × Nat)) (f : List Int) (x k : Nat) (v : Int) : Prop :=
  (v = -1 ∧ ∀ a b, (a, b) ∈ l.take k → a = x → f.getD b (-1) < 0) ∨ ∃ y : Nat, (x, y) ∈ l.take k ∧ 0 ≤ f.getD y (-1) ∧ v = f.getD y (-1) + 1 ∧ ∀ a b, (a, b) ∈ l.take k → a = x → 0 ≤ f.getD b (-1) → v ≤ f.getD b (-1) + 1
theorem Bst.start {l : List (Nat × Nat)} {f : List Int} {x : Nat} : Bst l f x 0 (-1) := .inl ⟨rfl, fun a b h => by simp at h⟩
theorem Bst.skip {l : List (Nat × Nat)} {f : List Int} {x k a b : Nat} {v : Int} (h : Bst l f x k v) (hk : l[k]? = some (a, b)) (hn : ¬ (a = x ∧ 0 ≤ f.getD b (-1) ∧ (v < 0 ∨ f.getD b (-1) + 1 < v))) : Bst l f x (k + 1) v := by
  rcases h with ⟨h1, h2⟩ | ⟨y, h1, h2, h3, h4⟩
  · refine .inl ⟨h1, fun a' b' hab e => ?_⟩
    rcases (take_in hk a' b').1 hab with hab | ⟨rfl, rfl⟩
    · exact h2 a' b' hab e
    · by_cases hc : 0 ≤ f.getD b' (-1)
      · exact absurd ⟨e, hc, .inl (by omega)⟩ hn
      · omega
  · refine .inr ⟨y, (take_in hk x y).2 (.inl h1), h2, h3, fun a' b' hab e hc => ?_⟩
    rcases (take_in hk a' b').1 hab with hab | ⟨rfl, rfl⟩
    · exact h4 a' b' hab e hc
    · by_cases hd : v ≤ f.getD b' (-1) + 1
      · exact hd
      · exact absurd ⟨e, hc, .inr (by omega)⟩ hn
theorem Bst.note {l : List (Nat × Nat)} {f : List Int} {x k a b : Nat} {v : Int} (h : Bst l f x k v) (hk : l[k]? = some (a, b)) (ha : a = x) (hb : 0 ≤ f.getD b (-1)) (hv : v < 0 ∨ f.getD b (-1) + 1 < v) : Bst l f x (k + 1) (f.getD b (-1) + 1) := by
  subst ha
  refine .inr ⟨b, (take_in hk a b).2 (.inr ⟨rfl, rfl⟩), hb, rfl, fun a' b' hab e hc => ?_⟩
  rcases (take_in hk a' b').1 hab with hab | ⟨rfl, rfl⟩
  · rcases h with ⟨h1, h2⟩ | ⟨y, h1, h2, h3, h4⟩
    · have := h2 a' b' hab e; omega
    · have := h4 a' b' hab e hc; omega
  · omega
/-- what it comes to -/
theorem Bst.done {es : List (Int × Int)} {ts : List Int} {f : List Int} {x N : Nat} {v : Int} (hup : ts.Pairwise (· < ·)) (hm : ∀ x, x ∈ ts ↔ ∃ e ∈ es, x = e.1 ∨ x = e.2) (hN : ts.length = N) (hx : x < N) (hF : Fro (Er es ts) x N f) (h : Bst (pls ts es) f x (pls ts es).length v) :
    (v = -1 ∧ ¬ OnR (Er es ts) x) ∨ ∃ L : Nat, v = L ∧ Cyc (Er es ts) x L ∧ L ≤ N := by
  have hE : ∀ u v, Er es ts u v → u < N := fun u v h => by have := h.lt.1; omega
  have hf := fun y => hF.all hE hx y
  rcases h with ⟨h1, h2⟩ | ⟨y, h1, h2, h3, h4⟩
  · refine .inl ⟨h1, ?_⟩
    rintro ⟨k, y, hy, hw⟩
    have h3 := (hf y).1 k hw
    have h4 := h2 x y (by rw [List.take_length]; exact hy.pls hup) rfl
    omega
  · rw [List.take_length] at h1
    have hxy := pls_er hm h1
    have hp := (hf y).2 h2
    refine .inr ⟨(f.getD y (-1)).toNat + 1, by omega, ⟨by omega, ⟨y, hxy, hp⟩, fun j hj0 hj hw => ?_⟩, ?_⟩
    · obtain ⟨i, rfl⟩ : ∃ i, j = i + 1 := ⟨j - 1, by omega⟩
      obtain ⟨z, hz, hzw⟩ := hw
      have h5 := (hf z).1 i hzw
      have h6 := h4 x z (by rw [List.take_length]; exact hz.pls hup) rfl h5.1
      omega
    · obtain ⟨dd, hd, hs⟩ := hp.sht
      have h5 := hs.lt hE hx
      have h6 := (hf y).1 dd hs.1
      omega
set_option maxHeartbeats 2000000 in
set_option maxRecDepth 100000 in
theorem rring_at {w : World} {p : Option Addr} {n c : Nat} {es : List Eg} (hE : EIn w p n es) (hz : n ≤ 4500) :
    Calls Try.prog 11 #[.slice p n c] w fun e w' => ∃ (q : Option Addr) (cq : Nat) (l : List Nat) (ts : List Int), e = .returned (.slice q l.length cq) ∧ w'.ownsRow w.heap.size 25 1 (.slice q l.length cq) l.length (U64 (tks ts l)) ∧ RowKit.Below w.heap.size w w' ∧ (ts.Pairwise (· < ·) ∧ ∀ x, x ∈ ts ↔ ∃ e ∈ egs es, x = e.1 ∨ x = e.2) ∧ RingIs (Er (egs es) ts) l := by
  have HE : Hid (∀ W, RowKit.Below w.heap.size w W → EIn W p n es) := fun W hW => hE.later hW
  have HL : Hid (es.length = n) := hE.len
  go_enter Try.func11, Try.ntmps11
  go_wp2_with fail
  refine (rtickets_at hE hz).mono ?_
  rintro e w1 ⟨q, d, ts, rfl, ho1, hb1, hup, hm, htl⟩
  obtain ⟨N, hN⟩ : ∃ N, ts.length = N := ⟨_, rfl⟩
  rw [hN] at ho1 htl ⊢
  have hN9 : N ≤ 9000 := by omega
  have HM : Hid (ts.length = N) := hN
  have HUP : Hid (ts.Pairwise (· < ·) ∧ ∀ x, x ∈ ts ↔ ∃ e ∈ egs es, x = e.1 ∨ x = e.2) := ⟨hup, hm⟩
  have HB1 : Hid (RowKit.Below w.heap.size w w1) := hb1
  have HU : Hid (∀ W, RowKit.Below w1.heap.size w1 W → UIn W q N ts) := fun W hW => (uin_of_own ho1).later hW
  clear hE ho1 hb1 hup hm hN
  go_wp2_with fail
  go_loopw [4] (fun v W => ∃ i : Nat, v = .int .i64 (i : Int) ∧ i ≤ N ∧ Hid (RowKit.Below w1.heap.size w1 W) ∧ Hid (∀ x, x < i → ¬ OnR (Er (egs es) ts) x)) (fun v _ => N - (intV v).toNat)
  case atStart => exact ⟨0, rfl, by omega, RowKit.Below.refl _ _, fun x hx => by omega⟩
  case round =>
    obtain ⟨i, rfl, hi, HB, HNO⟩ := hrel
    by_cases hin : i < N
    · obtain ⟨ub, uo, rfl, hcu⟩ := (HU.out wr HB.out).cells (by omega)
      have hci := hcu i hin
      have hti : ts[i]? = some (ts.getD i 0) := by
        have := HM.out
        rw [List.getElem?_eq_getElem (by omega)]
        simp [List.getD, List.getElem?_eq_getElem (show i < ts.length by omega)]
      have HCL : Hid _ := far_at (c := c) (d := d) (HE.out wr (below_then HB1.out HB.out)) hz (HU.out wr HB.out) hN9 HUP.out.1 HUP.out.2 hti
      have HTI : Hid (ts[i]? = some (ts.getD i 0)) := hti
      clear hcu hti
      generalize ts.getD i 0 = tI at *
      go_wp2_with fail
      refine Calls.mono HCL.out ?_
      rintro e w2 ⟨gf, f, rfl, hof, hb2, hFro⟩
      have HB2 : Hid (RowKit.Below w1.heap.size w1 w2) := below_then HB.out hb2
      have HIF : Hid (∀ W, RowKit.Below w2.heap.size w2 W → IIn W (some ⟨gf, 0, none⟩) N f) := fun W hW => own_iin (O.own_later hof hW)
      have HFR : Hid (Fro (Er (egs es) ts) i N f) := hFro
      clear HCL hof hb2 hFro hci
      go_wp2_with fail
      go_loopw [6, 7] (fun v6 v W => ∃ (k : Nat) (z : Int), v6 = .int .i64 z ∧ v = .int .i64 (k : Int) ∧ k ≤ n ∧ Hid (RowKit.Below w2.heap.size w2 W) ∧ Hid (Bst (pls ts (egs es)) f i k z)) (fun v6 v _ => n - (intV v).toNat)
      case atStart => exact ⟨0, -1, rfl, rfl, by omega, RowKit.Below.refl _ _, Bst.start⟩
      case round =>
        obtain ⟨k, z, rfl, rfl, hk, HB3, HBS⟩ := hrel
        have HB13 : Hid (RowKit.Below w1.heap.size w1 wr) := below_then HB2.out HB3.out
        by_cases hkn : k < n
        · obtain ⟨a, b, hab, hA, hB, hEr⟩ := pls_get HL.out HUP.out.2 hkn
          obtain ⟨eb, eo, rfl, hcs⟩ := (HE.out wr (below_then HB1.out HB13.out)).cells (by omega)
          have HH1 : Hid (∀ q, (wr.drewN q).cell? ⟨eb, eo + k * 4 + 1, none⟩ = some (.int .u64 (es.getD k noEg).t)) := fun q => (hcs k hkn).2.1
          have h1 := (hcs k hkn).1
          have hbN : b < N := by rw [← HM.out]; exact hEr.lt.2
          have haN : a < N := by rw [← HM.out]; exact hEr.lt.1
          obtain ⟨ub', uo', eu, hcu⟩ := (HU.out wr HB13.out).cells (by omega)
          cases eu
          have hcx : wr.cell? ⟨ub, uo + i, none⟩ = some (.int .u64 tI) := by
            have := hcu i hin
            rw [this]
            have h2 := HTI.out
            rw [List.getD, h2]; rfl
          have HCB : Hid (∀ q, (wr.drewN q).cell? ⟨gf, b, none⟩ = some (.int .i64 (f.getD b (-1)))) := fun q => by
            obtain ⟨b', o', e', hc⟩ := (HIF.out wr HB3.out).cells (by omega)
            cases e'
            have h3 := hc b hbN
            rw [Nat.zero_add] at h3
            have h4 : (wr.drewN q).cell? ⟨gf, b, none⟩ = some (.int .i64 (f.getD b 0)) := h3
            rw [h4]
            have := (HIF.out wr HB3.out).len
            simp [List.getD, List.getElem?_eq_getElem (show b < f.length by omega)]
          have HEQ : Hid ((es.getD k noEg).f = tI ↔ a = i) := by
            constructor
            · intro e; rw [e] at hA; exact up_at HUP.out.1 hA HTI.out
            · rintro rfl
              have := HTI.out
              rw [hA] at this; exact Option.some.inj this
          have HIX : Hid (∀ q, Calls Try.prog 18 #[.slice (some ⟨ub, uo, none⟩) N d, .int .u64 (es.getD k noEg).t] (wr.drewN q) fun e w' => e = .returned (.int .i64 (b : Int)) ∧ w' = wr.drewN q) := fun q => index_at (HU.out _ (HB13.out.trans (below_dr _ _ q))) (by omega) HUP.out.1 hB
          have HFB : Hid (f.getD b (-1) ≤ 9000) := by
            show f.getD b (-1) ≤ 9000
            by_cases h : 0 ≤ f.getD b (-1)
            · have := (HFR.out.sound b h).2; omega
            · omega
          have HSK : Hid (¬ (a = i ∧ 0 ≤ f.getD b (-1) ∧ (z < 0 ∨ f.getD b (-1) + 1 < z)) → Bst (pls ts (egs es)) f i (k + 1) z) := fun h => HBS.out.skip hab h
          have HNT : Hid (a = i → 0 ≤ f.getD b (-1) → (z < 0 ∨ f.getD b (-1) + 1 < z) → Bst (pls ts (egs es)) f i (k + 1) (f.getD b (-1) + 1)) := fun h1 h2 h3 => HBS.out.note hab h1 h2 h3
          clear hcs hcu hab hA hB hEr
          generalize es.getD k noEg = ed at *
          obtain ⟨ef, et, ey, ebk⟩ := ed
          simp only at h1 HH1 HEQ HIX
          generalize f.getD b (-1) = fb at *
          by_cases c1 : ef = tI
          · subst c1
            have HAX : Hid (a = i) := HEQ.out.1 rfl
            go_wp2_with fail
            go_quiet (fail)
            have HB4 : Hid (RowKit.Below w2.heap.size w2 (wr.drewN nq)) := HB3.out.trans (below_dr _ _ nq)
            have HC5 : Hid _ := HIX.out nq
            have h2 := HH1.out nq
            have hcb := HCB.out nq
            generalize wr.drewN nq = W5 at *
            have hfb := HFB.out
            go_wp2_with fail
            refine Calls.mono HC5.out ?_
            rintro e w' ⟨rfl, hw'⟩
            have hw2 := hw'.symm
            clear hw'
            subst hw2
            clear HC5
            by_cases c2 : 0 ≤ fb
            · by_cases c3 : z < 0
              · have HM2 : Hid (Bst (pls ts (egs es)) f i (k + 1) (fb + 1)) := HNT.out HAX.out c2 (.inl c3)
                go_wp2_with fail
                go_roundw
                case rel => exact ⟨k + 1, fb + 1, rfl, rfl, by omega, HB4, HM2⟩
                case measure => simp [intV]; omega
              · by_cases c4 : fb + 1 < z
                · have HM2 : Hid (Bst (pls ts (egs es)) f i (k + 1) (fb + 1)) := HNT.out HAX.out c2 (.inr c4)
                  go_wp2_with fail
                  go_roundw
                  case rel => exact ⟨k + 1, fb + 1, rfl, rfl, by omega, HB4, HM2⟩
                  case measure => simp [intV]; omega
                · have HM2 : Hid (Bst (pls ts (egs es)) f i (k + 1) z) := HSK.out fun h => by omega
                  go_wp2_with fail
                  go_roundw
                  case rel => exact ⟨k + 1, z, rfl, rfl, by omega, HB4, HM2⟩
                  case measure => simp [intV]; omega
            · have HM2 : Hid (Bst (pls ts (egs es)) f i (k + 1) z) := HSK.out fun h => c2 h.2.1
              go_wp2_with fail
              go_roundw
              case rel => exact ⟨k + 1, z, rfl, rfl, by omega, HB4, HM2⟩
              case measure => simp [intV]; omega
          · have HM2 : Hid (Bst (pls ts (egs es)) f i (k + 1) z) := HSK.out fun h => c1 (HEQ.out.2 h.1)
            have hb1 : (ef != tI) = true := by rw [bne_iff_ne]; exact c1
            go_wp2_with fail
            go_quiet (fail)
            have HB4 : Hid (RowKit.Below w2.heap.size w2 (wr.drewN nq)) := HB3.out.trans (below_dr _ _ nq)
            go_wp2_with fail
            go_roundw
            case rel => exact ⟨k + 1, z, rfl, rfl, by omega, HB4, HM2⟩
            case measure => simp [intV]; omega
        · have HD : Hid ((z = -1 ∧ ¬ OnR (Er (egs es) ts) i) ∨ ∃ L : Nat, z = L ∧ Cyc (Er (egs es) ts) i L ∧ L ≤ N) := by
            have h1 := HBS.out
            rw [show k = (pls ts (egs es)).length by simp [pls, egs]; have := HL.out; omega] at h1
            exact h1.done HUP.out.1 HUP.out.2 HM.out hin HFR.out
          rcases HD.out with ⟨ez, hno⟩ | ⟨L, ez, hcy, hLN⟩
          · subst ez
            have HNO2 : Hid (∀ x, x < i + 1 → ¬ OnR (Er (egs es) ts) x) := fun x hx => by
              by_cases e : x = i
              · rw [e]; exact hno
              · exact HNO.out x (by omega)
            clear HD hno HBS
            go_wp2_with fail
            go_roundw
            case rel => exact ⟨i + 1, rfl, by omega, HB13, HNO2⟩
            case measure => simp [intV]; omega
          · subst ez
            have hL0 : 0 < L := hcy.1
            have HCY : Hid (Cyc (Er (egs es) ts) i L) := hcy
            have HCL : Hid _ := walk_at (c := c) (d := d) (cf := N) (HE.out wr (below_then HB1.out HB13.out)) hz (HU.out wr HB13.out) hN9 HUP.out.1 HUP.out.2 hin (HIF.out wr HB3.out) HFR.out hcy hLN
            clear HD hcy HBS
            go_wp2_with fail
            refine Calls.mono HCL.out ?_
            rintro e w9 ⟨rr, cr, l, rfl, ho, hb, hwk⟩
            have HO9 : Hid (w9.ownsRow w.heap.size 25 1 (.slice rr l.length cr) l.length (U64 (tks ts l))) := B.own_mono ho (below_then HB1.out HB13.out).size
            have HB9 : Hid (RowKit.Below w.heap.size w w9) := below_then (below_then HB1.out HB13.out) hb
            have HWK : Hid (Wk (Er (egs es) ts) i L i l) := hwk
            clear HCL ho hb hwk
            go_wp2_with fail
            go_ret
            refine ⟨rr, cr, l, ts, rfl, HO9.out, HB9.out, HUP.out, .inr ⟨i, L, ?_, fun x hx => ?_, HCY.out, HWK.out⟩⟩
            · obtain ⟨k, rfl⟩ : ∃ k, L = k + 1 := ⟨L - 1, by omega⟩
              exact ⟨k, HCY.out.2.1⟩
            · by_cases hc : i ≤ x
              · exact hc
              · exact absurd hx (HNO.out x (by omega))
    · go_wp2_with fail
      go_ret
      refine ⟨none, 0, [], ts, rfl, World.ownsRow_nil _ _ _ _, below_then HB1.out HB.out, HUP.out, .inl ⟨rfl, fun x hx => ?_⟩⟩
      obtain ⟨y, hy, _⟩ := hx.out
      have := hy.lt.1
      have := HM.out
      exact HNO.out x (by omega) hx
end Go.Proofs.Ytkgjmejpbklabaa
