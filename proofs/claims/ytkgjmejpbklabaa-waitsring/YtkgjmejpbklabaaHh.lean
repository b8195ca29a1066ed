/-
  Layer 15: the document's walk.
-/
import Derived.Test.YtkgjmejpbklabaaHg
import Derived.Test.YtkgjmejpbklabaaGw
namespace Go.Proofs.Ytkgjmejpbklabaa
open Go.RowKit

open B (IIn I64)
/-- of the first k edges the least place that x leads to and that is so far -/
def Mn (l : List (Nat × Nat)) (f : List Int) (x : Nat) (d : Int) (k : Nat) (v : Int) : Prop :=
  (v = -1 ∧ ∀ a b, (a, b) ∈ l.take k → ¬ (a = x ∧ f.getD b (-1) = d)) ∨ ∃ y : Nat, v = y ∧ (x, y) ∈ l.take k ∧ f.getD y (-1) = d ∧ ∀ a b, (a, b) ∈ l.take k → a = x → f.getD b (-1) = d → y ≤ b
theorem Mn.start {l : List (Nat × Nat)} {f : List Int} {x : Nat} {d : Int} : Mn l f x d 0 (-1) := .inl ⟨rfl, fun a b h => by simp at h⟩
theorem take_in {l : List (Nat × Nat)} {k a b : Nat} (h : l[k]? = some (a, b)) (a' b' : Nat) : (a', b') ∈ l.take (k + 1) ↔ (a', b') ∈ l.take k ∨ (a' = a ∧ b' = b) := by
  rw [List.take_add_one, h, List.mem_append]
  simp
theorem Mn.skip {l : List (Nat × Nat)} {f : List Int} {x : Nat} {d : Int} {k a b : Nat} {v : Int} (h : Mn l f x d k v) (hk : l[k]? = some (a, b)) (hn : ¬ (a = x ∧ f.getD b (-1) = d ∧ (v < 0 ∨ (b : Int) < v))) : Mn l f x d (k + 1) v := by
  rcases h with ⟨h1, h2⟩ | ⟨y, h1, h2, h3, h4⟩
  · refine .inl ⟨h1, fun a' b' hab hc => ?_⟩
    rcases (take_in hk a' b').1 hab with hab | ⟨rfl, rfl⟩
    · exact h2 a' b' hab hc
    · exact hn ⟨hc.1, hc.2, .inl (by omega)⟩
  · refine .inr ⟨y, h1, (take_in hk x y).2 (.inl h2), h3, fun a' b' hab e1 e2 => ?_⟩
    rcases (take_in hk a' b').1 hab with hab | ⟨rfl, rfl⟩
    · exact h4 a' b' hab e1 e2
    · by_cases hc : y ≤ b'
      · exact hc
      · exact absurd ⟨e1, e2, .inr (by omega)⟩ hn
theorem Mn.note {l : List (Nat × Nat)} {f : List Int} {x : Nat} {d : Int} {k a b : Nat} {v : Int} (h : Mn l f x d k v) (hk : l[k]? = some (a, b)) (ha : a = x) (hb : f.getD b (-1) = d) (hv : v < 0 ∨ (b : Int) < v) : Mn l f x d (k + 1) b := by
  subst ha
  refine .inr ⟨b, rfl, (take_in hk a b).2 (.inr ⟨rfl, rfl⟩), hb, fun a' b' hab e1 e2 => ?_⟩
  rcases (take_in hk a' b').1 hab with hab | ⟨rfl, rfl⟩
  · rcases h with ⟨h1, h2⟩ | ⟨y, h1, h2, h3, h4⟩
    · exact absurd ⟨e1, e2⟩ (h2 a' b' hab)
    · have := h4 a' b' hab e1 e2
      omega
  · exact Nat.le_refl _
theorem pls_er {es : List (Int × Int)} {ts : List Int} (hm : ∀ x, x ∈ ts ↔ ∃ e ∈ es, x = e.1 ∨ x = e.2) {u v : Nat} (h : (u, v) ∈ pls ts es) : Er es ts u v := by
  obtain ⟨e, he, h1⟩ := List.mem_map.1 h
  simp only [Prod.mk.injEq] at h1
  obtain ⟨rfl, rfl⟩ := h1
  exact ⟨e, he, find_at ((hm e.1).2 ⟨e, he, .inl rfl⟩), find_at ((hm e.2).2 ⟨e, he, .inr rfl⟩)⟩
/-- the least that is so far is the next one -/
theorem Mn.nx {es : List (Int × Int)} {ts : List Int} {f : List Int} {t rem x : Nat} {v : Int} (hup : ts.Pairwise (· < ·)) (hm : ∀ x, x ∈ ts ↔ ∃ e ∈ es, x = e.1 ∨ x = e.2) (hf : ∀ x, (∀ k, Pt (Er es ts) k x t → 0 ≤ f.getD x (-1) ∧ f.getD x (-1) ≤ k) ∧ (0 ≤ f.getD x (-1) → Pt (Er es ts) (f.getD x (-1)).toNat x t)) (hr : Rat (Er es ts) t rem x) (h : Mn (pls ts es) f x ((rem - 1 : Nat) : Int) (pls ts es).length v) :
    ∃ y : Nat, v = y ∧ Nx (Er es ts) t (rem - 1) x y := by
  have hfar : ∀ z, Er es ts x z → Pt (Er es ts) (rem - 1) z t → f.getD z (-1) = ((rem - 1 : Nat) : Int) := fun z hz hw => by
    have h1 := (hf z).1 _ hw
    have h2 := (hf z).2 h1.1
    have h3 := hr.2.2 z _ hz h2
    omega
  rcases h with ⟨h1, h2⟩ | ⟨y, h1, h2, h3, h4⟩
  · obtain ⟨y, hy, hw⟩ := hr.2.1
    exact absurd ⟨rfl, hfar y hy hw⟩ (h2 x y (by rw [List.take_length]; exact hy.pls hup))
  · rw [List.take_length] at h2
    refine ⟨y, h1, pls_er hm h2, ?_, fun z hz hw => h4 x z (by rw [List.take_length]; exact hz.pls hup) rfl (hfar z hz hw)⟩
    have := (hf y).2 (by omega)
    rw [h3] at this
    simpa using this
theorem Told.end {E : Nat → Nat → Prop} {t L x : Nat} {out : List Nat} (h : Told E t L 1 x out) (hr : Rat E t 1 x) : Wk E t L t (out ++ [x]) := by
  obtain ⟨_, ⟨y, hy, hw⟩, _⟩ := hr
  have e : y = t := hw
  subst e
  exact h [x] ⟨[], rfl, y, ⟨hy, rfl, fun z _ hz => by have : z = y := hz; omega⟩, rfl⟩
set_option maxHeartbeats 2000000 in
set_option maxRecDepth 100000 in
theorem walk_at {w : World} {p q : Option Addr} {n c N d gf cf t L : Nat} {es : List Eg} {ts f : List Int} (hE : EIn w p n es) (hz : n ≤ 4500) (hU : UIn w q N ts) (hN : N ≤ 9000) (hup : ts.Pairwise (· < ·)) (hm : ∀ x, x ∈ ts ↔ ∃ e ∈ egs es, x = e.1 ∨ x = e.2) (ht : t < N) (hI : IIn w (some ⟨gf, 0, none⟩) N f) (hF : Fro (Er (egs es) ts) t N f) (hC : Cyc (Er (egs es) ts) t L) (hL : L ≤ N) :
    Calls Try.prog 19 #[.slice p n c, .slice q N d, .slice (some ⟨gf, 0, none⟩) N cf, .int .i64 (t : Int), .int .i64 (L : Int)] w fun e w' => ∃ (r : Option Addr) (cr : Nat) (l : List Nat), e = .returned (.slice r l.length cr) ∧ w'.ownsRow w.heap.size 25 1 (.slice r l.length cr) l.length (U64 (tks ts l)) ∧ RowKit.Below w.heap.size w w' ∧ Wk (Er (egs es) ts) t L t l := by
  have HE : Hid (∀ W, RowKit.Below w.heap.size w W → EIn W p n es) := fun W hW => hE.later hW
  have HU : Hid (∀ W, RowKit.Below w.heap.size w W → UIn W q N ts) := fun W hW => hU.later hW
  have HI : Hid (∀ W, RowKit.Below w.heap.size w W → ∀ y, y < N → W.cell? ⟨gf, y, none⟩ = some (.int .i64 (f.getD y (-1)))) := fun W hW y hy => by
    obtain ⟨b, o, e, hc⟩ := (hI.later hW).cells (by omega)
    cases e
    have := hc y hy
    rw [Nat.zero_add] at this
    rw [this]
    have := hI.len
    simp [List.getD, List.getElem?_eq_getElem (show y < f.length by omega)]
  have HUC : Hid (∀ W, RowKit.Below w.heap.size w W → ∃ b o, q = some ⟨b, o, none⟩ ∧ ∀ y, y < N → W.cell? ⟨b, o + y, none⟩ = some (.int .u64 (ts.getD y 0))) := fun W hW => (hU.later hW).cells (by omega)
  have HL : Hid (es.length = n) := hE.len
  have HM : Hid (ts.length = N) := hU.len
  have HUP : Hid (ts.Pairwise (· < ·) ∧ ∀ x, x ∈ ts ↔ ∃ e ∈ egs es, x = e.1 ∨ x = e.2) := ⟨hup, hm⟩
  have HFA : Hid (∀ x, (∀ k, Pt (Er (egs es) ts) k x t → 0 ≤ f.getD x (-1) ∧ f.getD x (-1) ≤ k) ∧ (0 ≤ f.getD x (-1) → Pt (Er (egs es) ts) (f.getD x (-1)).toNat x t)) := fun x => hF.all (fun u v h => by have := h.lt.1; have := hU.len; omega) ht x
  have HR0 : Hid (Rat (Er (egs es) ts) t L t ∧ Told (Er (egs es) ts) t L L t []) := ⟨hC.rat, Told.start⟩
  have hL1 : 1 ≤ L := hC.1
  obtain ⟨ub, uo, eq, hcu⟩ := HUC.out w (RowKit.Below.refl _ _)
  subst eq
  have hct := hcu t ht
  clear hE hU hup hm hI hF hC hcu
  have HTT : Hid (tks ts ([] ++ [t]) = [ts.getD t 0]) := rfl
  have HO0 : Hid ((w.alloc (Obj.cells #[Value.int .u64 (ts.getD t 0)] 25)).ownsRow w.heap.size 25 1 (.slice (some ⟨w.heap.size, 0, none⟩) 1 1) 1 (U64 (tks ts ([] ++ [t])))) := O.own_one (cs := [Value.int .u64 (ts.getD t 0)]) w rfl (Nat.le_refl _)
  have HB0 : Hid (RowKit.Below w.heap.size w (w.alloc (Obj.cells #[Value.int .u64 (ts.getD t 0)] 25))) := below_alloc w _
  obtain ⟨tx, etx⟩ : ∃ tx, ts.getD t 0 = tx := ⟨_, rfl⟩
  rw [etx] at hct HO0 HB0
  clear etx
  go_enter Try.func19, Try.ntmps19
  go_wp2_with fail
  clear hct
  go_loopw [4, 11, 12] (fun v4 v11 v12 W => ∃ (rem x : Nat) (out : List Nat) (r : Option Addr) (cr : Nat), v4 = .int .i64 (rem : Int) ∧ v11 = .slice r (out.length + 1) cr ∧ v12 = .int .i64 (x : Int) ∧ 1 ≤ rem ∧ x < N ∧ out.length + rem = L ∧ Hid (RowKit.Below w.heap.size w W) ∧ Hid (W.ownsRow w.heap.size 25 1 (.slice r (out.length + 1) cr) (out.length + 1) (U64 (tks ts (out ++ [x])))) ∧ Hid (Rat (Er (egs es) ts) t rem x ∧ Told (Er (egs es) ts) t L rem x out)) (fun v4 _ _ _ => (intV v4).toNat)
  case atStart => exact ⟨L, t, [], _, _, rfl, rfl, rfl, hL1, ht, by simp, HB0, HO0, HR0⟩
  case round =>
    obtain ⟨rem, x, out, r, cr, rfl, rfl, rfl, hrem, hxN, hol, HB, HO, HRT⟩ := hrel
    by_cases hr1 : 1 < rem
    · obtain ⟨s, rfl⟩ : ∃ s, rem = s + 1 := ⟨rem - 1, by omega⟩
      rw [show ((s + 1 : Nat) : Int) = (s : Int) + 1 by omega]
      have hs1 : (1 : Int) < (s : Int) + 1 := by omega
      go_wp2_with fail
      go_loopw [13, 14] (fun v13 v W => ∃ (k : Nat) (z : Int), v13 = .int .i64 z ∧ v = .int .i64 (k : Int) ∧ k ≤ n ∧ Hid (RowKit.Below w.heap.size w W) ∧ Hid (W.ownsRow w.heap.size 25 1 (.slice r (out.length + 1) cr) (out.length + 1) (U64 (tks ts (out ++ [x])))) ∧ Hid (Mn (pls ts (egs es)) f x (s : Int) k z)) (fun v13 v _ => n - (intV v).toNat)
      case atStart => exact ⟨0, -1, rfl, rfl, by omega, HB, HO, Mn.start⟩
      case round =>
        clear HB HO
        obtain ⟨k, z, rfl, rfl, hk, HB, HO, HMN⟩ := hrel
        by_cases hkn : k < n
        · obtain ⟨a, b, hab, hA, hB, hEr⟩ := pls_get HL.out HUP.out.2 hkn
          obtain ⟨eb, eo, rfl, hcs⟩ := (HE.out wr HB.out).cells (by omega)
          obtain ⟨h1, h2, -, -⟩ := hcs k hkn
          have hbN : b < N := by rw [← HM.out]; exact hEr.lt.2
          have haN : a < N := by rw [← HM.out]; exact hEr.lt.1
          obtain ⟨ub', uo', eu, hcu⟩ := HUC.out wr HB.out
          cases eu
          have hcx := hcu x hxN
          have hcb := HI.out wr HB.out b hbN
          have HEQ : Hid ((es.getD k noEg).f = ts.getD x 0 ↔ a = x) := by
            have hx : ts[x]? = some (ts.getD x 0) := by
              have := HM.out
              rw [List.getElem?_eq_getElem (by omega)]
              simp [List.getD, List.getElem?_eq_getElem (show x < ts.length by omega)]
            constructor
            · intro e; rw [e] at hA; exact up_at HUP.out.1 hA hx
            · rintro rfl; rw [hA] at hx; exact Option.some.inj hx
          have HAB : Hid ((pls ts (egs es))[k]? = some (a, b)) := hab
          have HIX : Hid _ := index_at (c := d) (HU.out wr HB.out) (by omega) HUP.out.1 hB
          have HSK : Hid (¬ (a = x ∧ f.getD b (-1) = s ∧ (z < 0 ∨ (b : Int) < z)) → Mn (pls ts (egs es)) f x (s : Int) (k + 1) z) := fun h => HMN.out.skip hab h
          have HNO : Hid (a = x → f.getD b (-1) = s → (z < 0 ∨ (b : Int) < z) → Mn (pls ts (egs es)) f x (s : Int) (k + 1) b) := fun h1 h2 h3 => HMN.out.note hab h1 h2 h3
          clear hcs hcu hab hA hB hEr
          generalize es.getD k noEg = ed at *
          obtain ⟨ef, et, ey, ebk⟩ := ed
          simp only at h1 h2 HEQ HIX
          generalize ts.getD x 0 = tX at *
          generalize f.getD b (-1) = fb at *
          go_wp2_with fail
          refine Calls.mono HIX.out ?_
          rintro e w' ⟨rfl, hw'⟩
          have hw2 := hw'.symm
          clear hw'
          subst hw2
          clear HIX
          have HBn : Hid (∀ q, RowKit.Below w.heap.size w (wr.drewN q)) := fun q => HB.out.trans (below_dr _ _ q)
          have HOn : Hid (∀ q, (wr.drewN q).ownsRow w.heap.size 25 1 (.slice r (out.length + 1) cr) (out.length + 1) (U64 (tks ts (out ++ [x])))) := fun q => O.own_later HO.out (below_dr _ _ q)
          by_cases c1 : ef = tX
          · subst c1
            have hax := HEQ.out.1 rfl
            have HAX : Hid (a = x) := hax
            clear hax
            by_cases c2 : fb = s
            · subst c2
              by_cases c3 : z < 0
              · have HM2 := HNO.out HAX.out rfl (.inl c3)
                have HM2 : Hid (Mn (pls ts (egs es)) f x (s : Int) (k + 1) b) := HM2
                have hd3 : decide (z < 0) = true := decide_eq_true c3
                go_wp2_with fail
                go_quiet (fail)
                go_wp2_with fail
                go_roundw
                case rel => exact ⟨k + 1, b, rfl, rfl, by omega, HBn.out nq, HOn.out nq, HM2⟩
                case measure => simp [intV]; omega
              · have hd3 : decide (z < 0) = false := decide_eq_false c3
                by_cases c4 : (b : Int) < z
                · have HM2 : Hid (Mn (pls ts (egs es)) f x (s : Int) (k + 1) b) := HNO.out HAX.out rfl (.inr c4)
                  have hd4 : decide ((b : Int) < z) = true := decide_eq_true c4
                  go_wp2_with fail
                  go_quiet (fail)
                  go_wp2_with fail
                  go_roundw
                  case rel => exact ⟨k + 1, b, rfl, rfl, by omega, HBn.out nq, HOn.out nq, HM2⟩
                  case measure => simp [intV]; omega
                · have HM2 : Hid (Mn (pls ts (egs es)) f x (s : Int) (k + 1) z) := HSK.out fun h => by omega
                  have hd4 : decide ((b : Int) < z) = false := decide_eq_false c4
                  go_wp2_with fail
                  go_quiet (fail)
                  go_wp2_with fail
                  go_roundw
                  case rel => exact ⟨k + 1, z, rfl, rfl, by omega, HBn.out nq, HOn.out nq, HM2⟩
                  case measure => simp [intV]; omega
            · have HM2 : Hid (Mn (pls ts (egs es)) f x (s : Int) (k + 1) z) := HSK.out fun h => c2 h.2.1
              have hb2 : (fb == (s : Int)) = false := by rw [beq_eq_false_iff_ne]; exact c2
              go_wp2_with fail
              go_quiet (fail)
              go_wp2_with fail
              go_roundw
              case rel => exact ⟨k + 1, z, rfl, rfl, by omega, HBn.out nq, HOn.out nq, HM2⟩
              case measure => simp [intV]; omega
          · have HM2 : Hid (Mn (pls ts (egs es)) f x (s : Int) (k + 1) z) := HSK.out fun h => c1 (HEQ.out.2 h.1)
            have hb1 : (ef == tX) = false := by rw [beq_eq_false_iff_ne]; exact c1
            go_wp2_with fail
            go_quiet (fail)
            go_wp2_with fail
            go_roundw
            case rel => exact ⟨k + 1, z, rfl, rfl, by omega, HBn.out nq, HOn.out nq, HM2⟩
            case measure => simp [intV]; omega
        · have HNX : Hid (∃ y : Nat, z = y ∧ Nx (Er (egs es) ts) t s x y) := by
            have h1 := HMN.out
            rw [show k = (pls ts (egs es)).length by simp [pls, egs]; have := HL.out; omega] at h1
            have h2 := Mn.nx (rem := s + 1) HUP.out.1 HUP.out.2 HFA.out HRT.out.1 (by simpa using h1)
            show ∃ y : Nat, z = y ∧ Nx (Er (egs es) ts) t s x y
            simpa using h2
          obtain ⟨y, ez, hnx⟩ := HNX.out
          subst ez
          have hyN : y < N := by rw [← HM.out]; exact hnx.1.lt.2
          have HRT2 : Hid (Rat (Er (egs es) ts) t s y ∧ Told (Er (egs es) ts) t L s y (out ++ [x])) := ⟨by
            have := HRT.out.1.next (by omega) (by simpa using hnx)
            simpa using this, by
            have := HRT.out.2.step (by omega) (by simpa using hnx)
            simpa using this⟩
          obtain ⟨ub', uo', eu, hcu⟩ := HUC.out wr HB.out
          cases eu
          have hcy := hcu y hyN
          have HSZ : Hid (w.heap.size ≤ wr.heap.size) := HB.out.size
          have HTX : Hid (U64 (tks ts (out ++ [x])) ++ [.int .u64 (ts.getD y 0)] = U64 (tks ts (out ++ [x] ++ [y]))) := by
            show _ = _
            simp [tks, U64]
          clear hcu hnx HNX HMN
          generalize ts.getD y 0 = ty at *
          go_wp2_with (at_builtin; refine O.wpList_one (w := wr) rfl (.tmp 68) (.tmp 73) O.elU rfl rfl HO.out _ rfl (by simp) rfl (by omega) HSZ.out ?_; intro p5 c5 w5 ho hk5 hv; have HO5 : Hid (w5.ownsRow w.heap.size 25 1 (.slice p5 (out.length + 1 + 1) c5) (out.length + 1 + 1) (U64 (tks ts (out ++ [x])) ++ [.int .u64 ty])) := ho; have HB5 : Hid (RowKit.Below w.heap.size w w5) := hk5.into HB.out (fun b hb e => by have := (HO.out.lt b e).1; omega) (Nat.le_refl _); clear ho hk5 hv)
          go_roundw
          case rel =>
            refine ⟨s, y, out ++ [x], p5, c5, rfl, by simp, rfl, by omega, hyN, by simp; omega, HB5, ?_, HRT2⟩
            have := HO5.out
            rw [HTX.out] at this
            rw [List.length_append, List.length_singleton]
            exact this
          case measure => simp [intV]
    · have e1 : rem = 1 := by omega
      subst e1
      go_wp2_with fail
      go_ret
      refine ⟨r, cr, out ++ [x], by simp, ?_, HB.out, HRT.out.2.end HRT.out.1⟩
      rw [List.length_append, List.length_singleton]; exact HO.out
end Go.Proofs.Ytkgjmejpbklabaa
