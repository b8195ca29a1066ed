/-
  Layer 17: plain mathematics of CacheDrops: the newest commit of each block, and what was put since.
-/
import Derived.Test.YthcpnfelnonhnaaQd
namespace Go.Proofs.Ythcpnfelnonhnaa
open Go.RowKit

/-- a commit's images -/
def imsR (R : List Int) (f : Int) : List Im := R.map (fun b => ⟨b, valS f b⟩)
theorem imsR_snoc (R : List Int) (b f : Int) : imsR (R ++ [b]) f = imsR R f ++ [⟨b, valS f b⟩] := by simp [imsR]
theorem imsR_len (R : List Int) (f : Int) : (imsR R f).length = R.length := by simp [imsR]
theorem imsR_wf {R : List Int} {f : Int} (hR : Rsn R 8) (hf : 0 ≤ f ∧ f < 256) : ImsWf (imsR R f) := fun i hi => by
  obtain ⟨b, hb, rfl⟩ := List.mem_map.1 hi
  have := hR.ins b hb
  exact ⟨by constructor <;> (show _ ≤ _) <;> dsimp only <;> omega, valS_len f b, valS_bytes hf (by omega)⟩
theorem imsR_in {R : List Int} {f : Int} (hR : Rsn R 8) : (imsR R f).any (outI 8) = false := by
  rw [List.any_eq_false]
  intro i hi
  obtain ⟨b, hb, rfl⟩ := List.mem_map.1 hi
  have := hR.ins b hb
  have h1 : ¬ b < 0 := by omega
  have h2 : ¬ 8 ≤ b := by omega
  simp [outI, h1, h2]
theorem imsR_up {R : List Int} {f : Int} (hR : Rsn R 8) : upI (imsR R f) = true := by
  refine upI_yes fun k x y hx hy => ?_
  unfold imsR at hx hy
  rw [List.getElem?_map] at hx hy
  obtain ⟨a, ha, rfl⟩ := Option.map_eq_some_iff.1 hx
  obtain ⟨b, hb, rfl⟩ := Option.map_eq_some_iff.1 hy
  obtain ⟨h1, e1⟩ := List.getElem?_eq_some_iff.1 ha
  obtain ⟨h2, e2⟩ := List.getElem?_eq_some_iff.1 hb
  have := List.pairwise_iff_getElem.1 hR.up k (k + 1) h1 h2 (by omega)
  rw [e1, e2] at this
  exact this
theorem put_first {R : List Int} {f : Int} (hR : Rsn R 8) (i : Nat) (hi : i < 40) : putE 8 (3 * (i : Int)) (imsR R f) (3 * (i : Int) + 2) = 0 := putE_ok (imsR_in hR) (imsR_up hR) (by omega)
theorem put_again {R : List Int} {f : Int} (hR : Rsn R 8) (i : Nat) : putE 8 (3 * (i : Int) + 3) (imsR R f) (3 * (i : Int) + 2) = 30 := putE_ring (imsR_in hR) (imsR_up hR) (.inl (by omega))
theorem gt_laysR : ∀ (R : List Int) {L : List En} (_ : UpE L) (f p : Int) (b : Int), gtE (lays L (imsR R f) p) b = if b ∈ R then some ⟨b, valS f b, p⟩ else gtE L b
  | [], L, _, f, p, b => by simp [imsR, lays]
  | r :: R, L, hu, f, p, b => by
    have e : lays L (imsR (r :: R) f) p = lays (layE L ⟨r, valS f r, p⟩) (imsR R f) p := rfl
    rw [e, gt_laysR R (lay_up hu), gt_layE hu]
    by_cases h1 : b ∈ R
    · rw [if_pos h1, if_pos (List.mem_cons_of_mem _ h1)]
    · rw [if_neg h1]
      by_cases h2 : b = r
      · subst h2
        rw [if_pos (show b = (En.mk b (valS f b) p).b from rfl), if_pos List.mem_cons_self]
      · rw [if_neg (show ¬ b = (En.mk r (valS f r) p).b from h2), if_neg (by rw [List.mem_cons]; exact fun h => h.elim h2 h1)]
/-- the numbers of the newest commits; what was put since -/
def nset (N : List Int) (R : List Int) (i : Int) : List Int := R.foldl (fun N b => N.set b.toNat i) N
def sset (S : List Bool) (R : List Int) (q : Bool) : List Bool := R.foldl (fun S b => S.set b.toNat (S.getD b.toNat false || q)) S
theorem nset_snoc (N R : List Int) (b i : Int) : nset N (R ++ [b]) i = (nset N R i).set b.toNat i := by simp [nset]
theorem sset_snoc (S : List Bool) (R : List Int) (b : Int) (q : Bool) : sset S (R ++ [b]) q = (sset S R q).set b.toNat ((sset S R q).getD b.toNat false || q) := by simp [sset]
theorem nset_len : ∀ (R N : List Int) (i : Int), (nset N R i).length = N.length
  | [], _, _ => rfl
  | b :: R, N, i => by rw [show nset N (b :: R) i = nset (N.set b.toNat i) R i from rfl, nset_len R, List.length_set]
theorem sset_len : ∀ (R : List Int) (S : List Bool) (q : Bool), (sset S R q).length = S.length
  | [], _, _ => rfl
  | b :: R, S, q => by rw [show sset S (b :: R) q = sset (S.set b.toNat (S.getD b.toNat false || q)) R q from rfl, sset_len R, List.length_set]
theorem getD_set {α : Type} (l : List α) (k j : Nat) (v d : α) (hk : k < l.length) : (l.set k v).getD j d = if j = k then v else l.getD j d := by
  simp only [List.getD, List.getElem?_set]
  by_cases h : j = k
  · subst h; simp [hk]
  · rw [if_neg (fun e => h e.symm), if_neg h]
theorem nset_get : ∀ (R N : List Int) (i : Int) (b : Nat), (∀ x ∈ R, 0 ≤ x ∧ x < N.length) → (nset N R i).getD b 0 = if (b : Int) ∈ R then i else N.getD b 0
  | [], N, i, b, _ => by simp [nset]
  | r :: R, N, i, b, h => by
    have h0 := h r List.mem_cons_self
    rw [show nset N (r :: R) i = nset (N.set r.toNat i) R i from rfl, nset_get R _ i b (fun x hx => by rw [List.length_set]; exact h x (List.mem_cons_of_mem _ hx)), getD_set _ _ _ _ _ (by omega)]
    by_cases h1 : (b : Int) ∈ R
    · rw [if_pos h1, if_pos (List.mem_cons_of_mem _ h1)]
    · rw [if_neg h1]
      by_cases h2 : b = r.toNat
      · rw [if_pos h2, if_pos (by rw [List.mem_cons]; left; omega)]
      · rw [if_neg h2, if_neg (by rw [List.mem_cons]; exact fun e => e.elim (fun e => h2 (by omega)) h1)]
theorem sset_get : ∀ (R : List Int) (S : List Bool) (q : Bool) (b : Nat), (∀ x ∈ R, 0 ≤ x ∧ x < S.length) → (sset S R q).getD b false = if (b : Int) ∈ R then (S.getD b false || q) else S.getD b false
  | [], S, q, b, _ => by simp [sset]
  | r :: R, S, q, b, h => by
    have h0 := h r List.mem_cons_self
    rw [show sset S (r :: R) q = sset (S.set r.toNat (S.getD r.toNat false || q)) R q from rfl, sset_get R _ q b (fun x hx => by rw [List.length_set]; exact h x (List.mem_cons_of_mem _ hx)), getD_set _ _ _ _ _ (by omega)]
    by_cases h2 : b = r.toNat
    · rw [if_pos h2]
      have hm : (b : Int) ∈ r :: R := by rw [List.mem_cons]; left; omega
      rw [if_pos hm, ← h2]
      by_cases h1 : (b : Int) ∈ R
      · rw [if_pos h1, Bool.or_assoc, Bool.or_self]
      · rw [if_neg h1]
    · rw [if_neg h2]
      have e : ((b : Int) ∈ r :: R) ↔ ((b : Int) ∈ R) := by rw [List.mem_cons]; exact ⟨fun e => e.elim (fun e => absurd (show b = r.toNat by omega) h2) id, .inr⟩
      by_cases h1 : (b : Int) ∈ R
      · rw [if_pos h1, if_pos (e.2 h1)]
      · rw [if_neg h1, if_neg fun k => h1 (e.1 k)]
/-- how the newest commits stand, behind i of them -/
structure Nws (L : List En) (N : List Int) (fl : Nat → Int) (i : Nat) : Prop where
  len : N.length = 8
  rng : ∀ b, b < 8 → 0 ≤ N.getD b 0 ∧ N.getD b 0 ≤ i
  get : ∀ b : Nat, b < 8 → gtE L b = if N.getD b 0 = 0 then none else some ⟨b, valS (fl ((N.getD b 0).toNat - 1)) b, 3 * N.getD b 0 - 1⟩
theorem Nws.new (fl : Nat → Int) : Nws [] (zs 8) fl 0 := by
  have h : ∀ b, (zs 8).getD b 0 = 0 := fun b => by
    unfold zs
    simp only [List.getD, List.getElem?_replicate]
    split <;> rfl
  exact ⟨rfl, fun b _ => by rw [h]; omega, fun b _ => by rw [h, if_pos rfl]; rfl⟩
theorem Nws.step {L : List En} {N : List Int} {fl : Nat → Int} {i : Nat} (h : Nws L N fl i) (hu : UpE L) {R : List Int} (hR : Rsn R 8) : Nws (lays L (imsR R (fl i)) (3 * (i : Int) + 2)) (nset N R ((i : Int) + 1)) fl (i + 1) := by
  have hin : ∀ x ∈ R, 0 ≤ x ∧ x < N.length := fun x hx => by have := hR.ins x hx; rw [h.len]; omega
  refine ⟨by rw [nset_len]; exact h.len, fun b hb => ?_, fun b hb => ?_⟩
  · rw [nset_get R N _ b hin]
    have := h.rng b hb
    split <;> omega
  · rw [nset_get R N _ b hin, gt_laysR R hu]
    by_cases hm : (b : Int) ∈ R
    · rw [if_pos hm, if_pos hm, if_neg (by omega)]
      have e1 : ((i : Int) + 1).toNat - 1 = i := by omega
      have e2 : 3 * ((i : Int) + 1) - 1 = 3 * (i : Int) + 2 := by omega
      rw [e1, e2]
    · rw [if_neg hm, if_neg hm]; exact h.get b hb
/-- what was put since -/
structure Snc (N : List Int) (S : List Bool) (a : Nat) : Prop where
  len : S.length = 8
  get : ∀ b, b < 8 → S.getD b false = decide ((a : Int) < N.getD b 0)
theorem Snc.new (a : Nat) : Snc (zs 8) (List.replicate 8 false) a := by
  refine ⟨rfl, fun b hb => ?_⟩
  have h1 : (zs 8).getD b 0 = 0 := by
    unfold zs
    simp only [List.getD, List.getElem?_replicate]
    split <;> rfl
  rw [h1, decide_eq_false (by omega)]
  simp only [List.getD, List.getElem?_replicate]
  split <;> rfl
theorem Snc.step {L : List En} {N : List Int} {S : List Bool} {fl : Nat → Int} {i a : Nat} (h : Snc N S a) (hN : Nws L N fl i) {R : List Int} (hR : Rsn R 8) : Snc (nset N R ((i : Int) + 1)) (sset S R (decide (a ≤ i))) a := by
  refine ⟨by rw [sset_len]; exact h.len, fun b hb => ?_⟩
  have h1 := hN.rng b hb
  rw [sset_get R S _ b (fun x hx => by have := hR.ins x hx; rw [h.len]; omega), nset_get R N _ b (fun x hx => by have := hR.ins x hx; rw [hN.len]; omega), h.get b hb]
  by_cases hm : (b : Int) ∈ R
  · rw [if_pos hm, if_pos hm, Bool.eq_iff_iff]
    generalize N.getD b 0 = nb at *
    simp; omega
  · rw [if_neg hm, if_neg hm]
/-- what was told at that moment -/
structure Tld (T : List En) (N : List Int) (a : Nat) : Prop where
  old : ∀ e ∈ T, e.p ≤ 3 * (a : Int) - 1
  has : ∀ b : Nat, b < 8 → 0 < N.getD b 0 → N.getD b 0 ≤ a → ∃ e ∈ T, e.b = b ∧ e.p = 3 * N.getD b 0 - 1
theorem Tld.of {L : List En} {N : List Int} {fl : Nat → Int} {a : Nat} (h : Nws L N fl a) (hu : UpE L) (hin : ∀ x ∈ L, 0 ≤ x.b ∧ x.b < 8) : Tld L N a := by
  refine ⟨fun e he => ?_, fun b hb h0 _ => ?_⟩
  · obtain ⟨b, hb⟩ : ∃ b : Nat, e.b = b := ⟨e.b.toNat, by have := hin e he; omega⟩
    have hb8 : b < 8 := by have := hin e he; omega
    have g := gt_mem hu he
    rw [hb, h.get b hb8] at g
    by_cases hz : N.getD b 0 = 0
    · rw [if_pos hz] at g; cases g
    · rw [if_neg hz] at g
      have := Option.some.inj g
      have hr := h.rng b hb8
      rw [← this]
      show 3 * N.getD b 0 - 1 ≤ _
      omega
  · have g := h.get b hb
    rw [if_neg (by omega)] at g
    exact ⟨_, (gt_some g).1, rfl, rfl⟩
theorem Tld.step {T L : List En} {N : List Int} {fl : Nat → Int} {i a : Nat} (h : Tld T N a) (hN : Nws L N fl i) (ha : a ≤ i) {R : List Int} (hR : Rsn R 8) : Tld T (nset N R ((i : Int) + 1)) a := by
  refine ⟨h.old, fun b hb h0 h1 => ?_⟩
  rw [nset_get R N _ b (fun x hx => by have := hR.ins x hx; rw [hN.len]; omega)] at h0 h1 ⊢
  by_cases hm : (b : Int) ∈ R
  · rw [if_pos hm] at h1; omega
  · rw [if_neg hm] at h0 h1 ⊢
    exact h.has b hb h0 h1
/-- what is left when that is dropped -/
theorem left_is {T L : List En} {N : List Int} {S : List Bool} {fl : Nat → Int} {i a : Nat} (hT : Tld T N a) (hN : Nws L N fl i) (hS : Snc N S a) (hu : UpE L) (b : Nat) (hb : b < 8) : (gtE (drps L T) b).isSome = S.getD b false := by
  rw [hS.get b hb]
  have g := hN.get b hb
  have hr := hN.rng b hb
  by_cases hz : N.getD b 0 = 0
  · rw [if_pos hz] at g
    rw [decide_eq_false (by omega)]
    cases k : gtE (drps L T) b with
    | none => rfl
    | some y =>
      obtain ⟨hm, hyb⟩ := gt_some k
      exact absurd hyb (gt_noneE g y (drps_mem.1 hm).1)
  · rw [if_neg hz] at g
    obtain ⟨hm, hxb⟩ := gt_some g
    by_cases ha : (a : Int) < N.getD b 0
    · rw [decide_eq_true ha]
      have hk : (⟨b, valS (fl ((N.getD b 0).toNat - 1)) b, 3 * N.getD b 0 - 1⟩ : En) ∈ drps L T := drps_mem.2 ⟨hm, fun e he => by
        have := hT.old e he
        have n : ¬ (3 * N.getD b 0 - 1 = e.p) := by omega
        show (decide _ && decide (3 * N.getD b 0 - 1 = e.p)) = false
        rw [decide_eq_false n, Bool.and_false]⟩
      have := gt_mem (drps_up hu T) hk
      rw [show (gtE (drps L T) b) = _ from this]; rfl
    · rw [decide_eq_false ha]
      obtain ⟨e, he, h1, h2⟩ := hT.has b hb (by omega) (by omega)
      cases k : gtE (drps L T) b with
      | none => rfl
      | some y =>
        obtain ⟨hy, hyb⟩ := gt_some k
        obtain ⟨hyL, hyD⟩ := drps_mem.1 hy
        have e1 := up_injE hu hyL hm hyb
        have := hyD e he
        rw [e1] at this
        have h3 : isD e ⟨b, valS (fl ((N.getD b 0).toNat - 1)) b, 3 * N.getD b 0 - 1⟩ = true := by
          show (decide ((b : Int) = e.b) && decide (3 * N.getD b 0 - 1 = e.p)) = true
          rw [decide_eq_true h1.symm, decide_eq_true h2.symm]; rfl
        rw [h3] at this; cases this
theorem ple_succ {D : List En} (hu : UpE D) (k : Nat) : ple D ((k + 1 : Nat) : Int) = ple D k + if (gtE D k).isSome = true then 1 else 0 := by
  have e1 : ple D ((k + 1 : Nat) : Int) = D.countP (fun x => decide (x.b < (k : Int))) + D.countP (fun x => decide (x.b = (k : Int))) := by
    unfold ple
    clear hu
    induction D with
    | nil => rfl
    | cons x D ih =>
      simp only [List.countP_cons, ih]
      have e : (if decide (x.b < ((k + 1 : Nat) : Int)) = true then 1 else 0) = (if decide (x.b < (k : Int)) = true then 1 else 0) + (if decide (x.b = (k : Int)) = true then 1 else 0) := by
        by_cases h1 : x.b < (k : Int)
        · rw [decide_eq_true h1, decide_eq_true (show x.b < ((k + 1 : Nat) : Int) by omega), decide_eq_false (show ¬ x.b = (k : Int) by omega)]; rfl
        · rw [decide_eq_false h1]
          by_cases h3 : x.b = (k : Int)
          · rw [decide_eq_true h3, decide_eq_true (show x.b < ((k + 1 : Nat) : Int) by omega)]; rfl
          · rw [decide_eq_false h3, decide_eq_false (show ¬ x.b < ((k + 1 : Nat) : Int) by omega)]; rfl
      omega
  rw [e1]
  show ple D k + _ = _
  congr 1
  cases g : gtE D k with
  | none =>
    rw [if_neg (by simp), List.countP_eq_zero]
    intro x hx
    simpa using gt_noneE g x hx
  | some y =>
    obtain ⟨hy, hyb⟩ := gt_some g
    rw [show (some y).isSome = true from rfl, if_pos rfl]
    have : D.filter (fun x => decide (x.b = (k : Int))) = [y] := by
      clear e1 g
      induction D with
      | nil => cases hy
      | cons x D ih =>
        have hu' := List.pairwise_cons.1 hu
        rcases List.mem_cons.1 hy with e | hy'
        · subst e
          rw [List.filter_cons_of_pos (by simpa using hyb)]
          congr 1
          refine List.filter_eq_nil_iff.2 fun z hz => ?_
          have := hu'.1 z hz
          simp; omega
        · have := hu'.1 y hy'
          rw [List.filter_cons_of_neg (by simp; omega)]
          exact ih hu'.2 hy'
    rw [List.countP_eq_length_filter, this]; rfl
theorem ple_all {D : List En} (h : ∀ x ∈ D, x.b < 8) : ple D ((8 : Nat) : Int) = D.length := by
  rw [ple, List.countP_eq_length]
  intro x hx
  have := h x hx
  simp; omega
theorem ple_none {D : List En} (h : ∀ x ∈ D, 0 ≤ x.b) : ple D ((0 : Nat) : Int) = 0 := ple_zero fun x hx => by have := h x hx; omega
theorem drps_self (L : List En) : drps L L = [] ∧ drpsN L L = L.length := by
  have e : drps L L = [] := by
    apply List.eq_nil_iff_forall_not_mem.2
    intro x hx
    obtain ⟨h1, h2⟩ := drps_mem.1 hx
    have := h2 x h1
    simp [isD] at this
  refine ⟨e, ?_⟩
  have := drps_len L L
  rw [e] at this
  simpa using this
end Go.Proofs.Ythcpnfelnonhnaa
