/-
  Layer 14, plain mathematics: a crowd of tickets 1 to K, some of them gone.
-/
import Derived.Test.YtkffmglcllhbmaaLm
namespace Go.Proofs.Ytkffmglcllhbmaa

def entF (K : Nat) (S : Nat → List Int) (d : Nat → Nat) (g : Nat → Bool) : List En := ((List.range K).filter fun i => !g i).map fun (i : Nat) => ⟨(i : Int) + 1, S i, d i⟩
theorem mem_entF {K : Nat} {S : Nat → List Int} {d : Nat → Nat} {g : Nat → Bool} {e : En} : e ∈ entF K S d g ↔ ∃ i, i < K ∧ g i = false ∧ e = ⟨(i : Int) + 1, S i, d i⟩ := by
  simp only [entF, List.mem_map, List.mem_filter, List.mem_range, Bool.not_eq_true']
  constructor
  · rintro ⟨i, ⟨h1, h2⟩, h3⟩; exact ⟨i, h1, h2, h3.symm⟩
  · rintro ⟨i, h1, h2, h3⟩; exact ⟨i, ⟨h1, h2⟩, h3.symm⟩
theorem isIn_entF {K : Nat} {S : Nat → List Int} {d : Nat → Nat} {g : Nat → Bool} {k : Nat} : isIn (entF K S d g) ((k : Int) + 1) = (decide (k < K) && !g k) := by
  rw [Bool.eq_iff_iff, isIn_iff, mem_tix]
  constructor
  · rintro ⟨e, he, het⟩
    obtain ⟨i, h1, h2, rfl⟩ := mem_entF.1 he
    obtain rfl : i = k := by simp at het; omega
    simp [h1, h2]
  · intro h
    simp only [Bool.and_eq_true, decide_eq_true_eq, Bool.not_eq_true'] at h
    exact ⟨_, mem_entF.2 ⟨k, h.1, h.2, rfl⟩, rfl⟩
theorem ent_entF {K : Nat} {S : Nat → List Int} {d : Nat → Nat} {g : Nat → Bool} {k : Nat} (hr : (tix (entF K S d g)).Pairwise (· < ·)) (hk : k < K) (hg : g k = false) : ent (entF K S d g) ((k : Int) + 1) = ⟨(k : Int) + 1, S k, d k⟩ :=
  (ent_of hr (mem_entF.2 ⟨k, hk, hg, rfl⟩)).1
theorem entF_bmp (K : Nat) (S : Nat → List Int) (d d' : Nat → Nat) (g : Nat → Bool) (k : Nat) (h1 : d' k = d k + 1) (h2 : ∀ i, i ≠ k → d' i = d i) : (entF K S d g).map (bmp ((k : Int) + 1)) = entF K S d' g := by
  simp only [entF, List.map_map]
  apply List.map_congr_left
  intro i _
  simp only [Function.comp, bmp]
  by_cases e : i = k
  · subst e; rw [if_pos rfl, h1]
  · rw [if_neg (by omega), h2 i e]
theorem entF_drp (K : Nat) (S : Nat → List Int) (d : Nat → Nat) (g g' : Nat → Bool) (k : Nat) (h1 : g' k = true) (h2 : ∀ i, i ≠ k → g' i = g i) : drpL (entF K S d g) ((k : Int) + 1) = entF K S d g' := by
  simp only [drpL, entF, List.filter_map, List.filter_filter]
  congr 1
  apply List.filter_congr
  intro i _
  simp only [Function.comp]
  by_cases e : i = k
  · subst e; simp [h1]
  · rw [h2 i e]
    have : ((i : Int) + 1 != (k : Int) + 1) = true := by simp; omega
    rw [this]; simp
theorem entF_congr {K : Nat} {S S' : Nat → List Int} {d d' : Nat → Nat} {g g' : Nat → Bool} (h : ∀ i, i < K → S' i = S i ∧ d' i = d i ∧ g' i = g i) : entF K S' d' g' = entF K S d g := by
  unfold entF
  rw [List.filter_congr (q := fun i => !g i) (fun i hi => by rw [(h i (List.mem_range.1 hi)).2.2])]
  apply List.map_congr_left
  intro i hi
  have hi2 := List.mem_range.1 (List.mem_filter.1 hi).1
  rw [(h i hi2).1, (h i hi2).2.1]
theorem entF_snoc (K : Nat) (S : Nat → List Int) : entF (K + 1) S (fun _ => 0) (fun _ => false) = entF K S (fun _ => 0) (fun _ => false) ++ [⟨(K : Int) + 1, S K, 0⟩] := by
  simp [entF, List.range_succ]

/-- the queue of b, as far as the first k -/
def standK (S : Nat → List Int) (g : Nat → Bool) (b : Int) (k : Nat) : List Int := ((List.range k).filter fun i => !g i && hsS (S i) b).map fun (i : Nat) => (i : Int) + 1
theorem standK_all (K : Nat) (S : Nat → List Int) (d : Nat → Nat) (g : Nat → Bool) (b : Int) : qS (entF K S d g) b = standK S g b K := by
  simp only [qS, entF, standK, List.filter_map, List.filter_filter, List.map_map]
  congr 1
  apply List.filter_congr
  intro i _
  simp only [Function.comp]
  exact Bool.and_comm _ _
theorem standK_succ (S : Nat → List Int) (g : Nat → Bool) (b : Int) (k : Nat) : standK S g b (k + 1) = standK S g b k ++ if (!g k && hsS (S k) b) = true then [(k : Int) + 1] else [] := by
  simp only [standK, List.range_succ, List.filter_append, List.map_append]
  congr 1
  by_cases h : (!g k && hsS (S k) b) = true
  · rw [if_pos h]; simp [h]
  · rw [if_neg h]; simp [h]
/-- who has locked b, as far as the first k; 0 -/
def holdK (S : Nat → List Int) (d : Nat → Nat) (g : Nat → Bool) (b : Int) : Nat → Int
  | 0 => 0
  | k + 1 => if (!g k && hsS ((S k).take (d k)) b) = true then (k : Int) + 1 else holdK S d g b k
theorem holdK_spec (S : Nat → List Int) (d : Nat → Nat) (g : Nat → Bool) (b : Int) : ∀ k, (holdK S d g b k = 0 ∧ ∀ i, i < k → ¬ (g i = false ∧ b ∈ (S i).take (d i))) ∨ ∃ i, i < k ∧ g i = false ∧ b ∈ (S i).take (d i) ∧ holdK S d g b k = (i : Int) + 1
  | 0 => .inl ⟨rfl, fun i hi => by omega⟩
  | k + 1 => by
    unfold holdK
    by_cases h : (!g k && hsS ((S k).take (d k)) b) = true
    · rw [if_pos h]
      simp only [Bool.and_eq_true, Bool.not_eq_true', hsS_iff] at h
      exact .inr ⟨k, by omega, h.1, h.2, rfl⟩
    · rw [if_neg h]
      simp only [Bool.and_eq_true, Bool.not_eq_true', hsS_iff] at h
      rcases holdK_spec S d g b k with ⟨h1, h2⟩ | ⟨i, h1, h2, h3, h4⟩
      · refine .inl ⟨h1, fun i hi => ?_⟩
        by_cases e : i = k
        · subst e; exact h
        · exact h2 i (by omega)
      · exact .inr ⟨i, by omega, h2, h3, h4⟩
/-- part of the way through the k-th set -/
def standI (S : Nat → List Int) (g : Nat → Bool) (b : Int) (k i : Nat) : List Int := standK S g b k ++ if (!g k && hsS ((S k).take i) b) = true then [(k : Int) + 1] else []
def holdI (S : Nat → List Int) (d : Nat → Nat) (g : Nat → Bool) (b : Int) (k i : Nat) : Int := if (!g k && hsS ((S k).take (min i (d k))) b) = true then (k : Int) + 1 else holdK S d g b k
theorem standI_zero (S : Nat → List Int) (g : Nat → Bool) (b : Int) (k : Nat) : standI S g b k 0 = standK S g b k := by simp [standI, hsS]
theorem holdI_zero (S : Nat → List Int) (d : Nat → Nat) (g : Nat → Bool) (b : Int) (k : Nat) : holdI S d g b k 0 = holdK S d g b k := by simp [holdI, hsS]
theorem standI_all (S : Nat → List Int) (g : Nat → Bool) (b : Int) (k : Nat) : standI S g b k (S k).length = standK S g b (k + 1) := by rw [standK_succ, standI, List.take_length]
theorem holdI_all (S : Nat → List Int) (d : Nat → Nat) (g : Nat → Bool) (b : Int) (k : Nat) (h : d k ≤ (S k).length) : holdI S d g b k (S k).length = holdK S d g b (k + 1) := by rw [holdI, holdK, Nat.min_eq_right h]
theorem hs_snoc {l : List Int} {i : Nat} {b : Int} (hi : i < l.length) : hsS (l.take (i + 1)) b = (hsS (l.take i) b || (l.getD i 0 == b)) := by
  rw [Bool.eq_iff_iff, List.take_succ_eq_append_getElem hi]
  simp only [hsS_iff, List.mem_append, List.mem_singleton, Bool.or_eq_true, beq_iff_eq]
  have : l.getD i 0 = l[i] := by simp [List.getD, hi]
  rw [this]
  exact ⟨fun h => h.elim .inl (fun e => .inr e.symm), fun h => h.elim .inl (fun e => .inr e.symm)⟩
theorem hs_once {l : List Int} (hp : l.Pairwise (· < ·)) {i : Nat} {b : Int} (hi : i < l.length) (h : l.getD i 0 = b) : hsS (l.take i) b = false := by
  cases e : hsS (l.take i) b with
  | false => rfl
  | true =>
    rw [hsS_iff] at e
    obtain ⟨j, hj, ej⟩ := List.getElem_of_mem e
    have hj2 : j < i ∧ j < l.length := by simp at hj; omega
    rw [List.getElem_take] at ej
    have h1 := (List.pairwise_iff_getElem.1 hp) j i hj2.2 hi hj2.1
    have h2 : l.getD i 0 = l[i] := by simp [List.getD, hi]
    omega
section
variable {K : Nat} {S : Nat → List Int} {d : Nat → Nat} {g : Nat → Bool} {b : Int} {k i : Nat}
theorem step_other (hi : i < (S k).length) (h : g k = true ∨ (S k).getD i 0 ≠ b) : standI S g b k (i + 1) = standI S g b k i ∧ holdI S d g b k (i + 1) = holdI S d g b k i := by
  rcases h with h | h
  · simp [standI, holdI, h]
  · have hb : ((S k).getD i 0 == b) = false := by simpa using h
    have e1 : hsS ((S k).take (i + 1)) b = hsS ((S k).take i) b := by rw [hs_snoc hi, hb]; simp
    refine ⟨by simp only [standI, e1], ?_⟩
    unfold holdI
    by_cases hd : i < d k
    · rw [show min (i + 1) (d k) = i + 1 by omega, show min i (d k) = i by omega, e1]
    · rw [show min (i + 1) (d k) = d k by omega, show min i (d k) = d k by omega]
theorem step_here (hp : (S k).Pairwise (· < ·)) (hi : i < (S k).length) (hg : g k = false) (h : (S k).getD i 0 = b) : standI S g b k (i + 1) = standI S g b k i ++ [(k : Int) + 1] ∧ (i < d k → holdI S d g b k i = holdK S d g b k ∧ holdI S d g b k (i + 1) = (k : Int) + 1) ∧ (¬ i < d k → holdI S d g b k (i + 1) = holdI S d g b k i) := by
  have e0 := hs_once hp hi h
  have e1 : hsS ((S k).take (i + 1)) b = true := by rw [hs_snoc hi, e0, h]; simp
  refine ⟨by simp [standI, e0, e1, hg], fun hd => ⟨?_, ?_⟩, fun hd => ?_⟩
  · simp [holdI, show min i (d k) = i by omega, e0]
  · simp [holdI, show min (i + 1) (d k) = i + 1 by omega, e1, hg]
  · unfold holdI; rw [show min (i + 1) (d k) = d k by omega, show min i (d k) = d k by omega]
theorem held_mem (h : ∃ bl last, Ok ⟨bl, last, entF K S d g⟩) (hk : k < K) (hg : g k = false) (hb : b ∈ (S k).take (d k)) : hdv (standK S g b K) = (k : Int) + 1 := by
  obtain ⟨bl, last, ok⟩ := h
  rw [← standK_all K S d g b]
  exact ok.own _ (mem_entF.2 ⟨k, hk, hg, rfl⟩) b hb
/-- no two have locked one block -/
theorem hold_free (h : ∃ bl last, Ok ⟨bl, last, entF K S d g⟩) (hk : k < K) (hg : g k = false) (hb : b ∈ (S k).take (d k)) : holdK S d g b k = 0 := by
  rcases holdK_spec S d g b k with ⟨h1, _⟩ | ⟨i, h1, h2, h3, h4⟩
  · exact h1
  · have e1 := held_mem h hk hg hb
    have e2 := held_mem h (show i < K by omega) h2 h3
    rw [e1] at e2
    omega
theorem mem_take {l : List Int} {i n : Nat} {b : Int} (hi : i < l.length) (hn : i < n) (h : l.getD i 0 = b) : b ∈ l.take n := by
  have h2 : l.getD i 0 = l[i] := by simp [List.getD, hi]
  rw [← h, h2, List.mem_take_iff_getElem]
  exact ⟨i, by omega, rfl⟩
theorem hold_end {bl : Nat} {last : Int} (ok : Ok ⟨bl, last, entF K S d g⟩) (b : Int) : hldN (entF K S d g) b = holdK S d g b K ∧ hldB (entF K S d g) b = (holdK S d g b K != 0) ∧ (hldB (entF K S d g) b = true → hdv (qS (entF K S d g) b) = holdK S d g b K) := by
  obtain ⟨h1, h2⟩ := hld_iff ok b
  rcases holdK_spec S d g b K with ⟨e1, e2⟩ | ⟨i, e1, e2, e3, e4⟩
  · have hB : hldB (entF K S d g) b = false := by
      cases hb : hldB (entF K S d g) b with
      | false => rfl
      | true =>
        obtain ⟨e, he, hbe⟩ := h1.1 hb
        obtain ⟨j, hj, hgj, rfl⟩ := mem_entF.1 he
        exact absurd ⟨hgj, hbe⟩ (e2 j hj)
    refine ⟨by rw [e1, hldN, hB]; simp, by rw [e1, hB]; rfl, fun hb => by rw [hB] at hb; cases hb⟩
  · have he := mem_entF.2 (⟨i, e1, e2, rfl⟩ : ∃ j, j < K ∧ g j = false ∧ (⟨(i : Int) + 1, S i, d i⟩ : En) = ⟨(j : Int) + 1, S j, d j⟩)
    obtain ⟨h3, h4⟩ := h2 _ he e3
    refine ⟨by rw [e4, h4], ?_, fun _ => ?_⟩
    · rw [h3, e4]; symm; simp; omega
    · rw [e4]; exact ok.own _ he b e3
/-- the least one that is there can take -/
theorem least_rdy {bl : Nat} {last : Int} (ok : Ok ⟨bl, last, entF K S d g⟩) (hk : k < K) (hg : g k = false) (hl : ∀ i, i < k → g i = true) (hd : d k < (S k).length) : rdyS (entF K S d g) ((k : Int) + 1) = true := by
  have he := ent_entF ok.rise hk hg
  have hm := mem_entF.2 (⟨k, hk, hg, rfl⟩ : ∃ j, j < K ∧ g j = false ∧ (⟨(k : Int) + 1, S k, d k⟩ : En) = ⟨(j : Int) + 1, S j, d j⟩)
  have hb : (ent (entF K S d g) ((k : Int) + 1)).nxB = true := by rw [he]; simp [En.nxB, hd]
  obtain ⟨hd2, hnx⟩ := nx_get hb
  unfold rdyS
  rw [hb, Bool.true_and, beq_iff_eq]
  generalize hx : (ent (entF K S d g) ((k : Int) + 1)).nx = x at *
  have hxm : x ∈ S k := by
    have : x = (S k)[d k] := by rw [hnx]; simp [he]
    rw [this]; exact List.getElem_mem _
  have h1 : (k : Int) + 1 ∈ qS (entF K S d g) x := qS_mem.2 ⟨_, hm, hxm, rfl⟩
  have hr := ok.qrise x
  cases hq : qS (entF K S d g) x with
  | nil => rw [hq] at h1; cases h1
  | cons y r =>
    rw [show qS (Lk.L ⟨bl, last, entF K S d g⟩) x = y :: r from hq] at hr
    rw [hq] at h1
    show y = _
    rcases List.mem_cons.1 h1 with e | e
    · exact e.symm
    · have h2 := (List.pairwise_cons.1 hr).1 _ e
      obtain ⟨e', he', _, het⟩ := qS_mem.1 (show y ∈ qS (entF K S d g) x by rw [hq]; simp)
      obtain ⟨j, hj, hgj, rfl⟩ := mem_entF.1 he'
      have : ¬ j < k := fun hjk => by rw [hl j hjk] at hgj; cases hgj
      simp at het
      omega
end
end Go.Proofs.Ytkffmglcllhbmaa
