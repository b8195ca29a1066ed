/-
  Layer 14, plain mathematics: what the document's locks do to their list.
-/
import Derived.Test.YtkffmglcllhbmaaLm
namespace Go.Proofs.Ytkffmglcllhbmaa

/-- a ticket's place in the list; the list's length, if it is not there -/
def posE (t : Int) : List En → Nat
  | [] => 0
  | x :: xs => if x.t = t then 0 else posE t xs + 1
theorem posE_none {t : Int} : ∀ {L : List En}, isIn L t = false → posE t L = L.length
  | [], _ => rfl
  | x :: xs, h => by
    have hx : ¬ x.t = t := fun e => by
      have : isIn (x :: xs) t = true := isIn_iff.2 (mem_tix.2 ⟨x, by simp, e⟩)
      rw [h] at this; cases this
    have h2 : isIn xs t = false := by
      cases h3 : isIn xs t with
      | false => rfl
      | true =>
        obtain ⟨e, he, ht⟩ := mem_tix.1 (isIn_iff.1 h3)
        have : isIn (x :: xs) t = true := isIn_iff.2 (mem_tix.2 ⟨e, by simp [he], ht⟩)
        rw [h] at this; cases this
    simp [posE, hx, posE_none h2]
theorem posE_at {t : Int} : ∀ {L : List En}, isIn L t = true → ∃ hk : posE t L < L.length, L[posE t L] = ent L t
  | [], h => by cases h
  | x :: xs, h => by
    by_cases hx : x.t = t
    · refine ⟨by simp [posE, hx], ?_⟩
      simp [posE, hx, ent, fnd]
    · have h2 : isIn xs t = true := by
        obtain ⟨e, he, ht⟩ := mem_tix.1 (isIn_iff.1 h)
        rcases List.mem_cons.1 he with rfl | he
        · exact absurd ht hx
        · exact isIn_iff.2 (mem_tix.2 ⟨e, he, ht⟩)
      obtain ⟨hk, e⟩ := posE_at h2
      have ep : posE t (x :: xs) = posE t xs + 1 := by simp [posE, hx]
      refine ⟨by rw [ep]; simpa using hk, ?_⟩
      simp only [ep, List.getElem_cons_succ, e]
      simp [ent, fnd, hx]
/-- none of the first k has it -/
def noneE (t : Int) (L : List En) (k : Nat) : Prop := ∀ j e, j < k → L[j]? = some e → ¬ e.t = t
theorem noneE_zero (t : Int) (L : List En) : noneE t L 0 := fun j _ h => absurd h (Nat.not_lt_zero j)
theorem noneE_step {t : Int} {L : List En} {k : Nat} (h : noneE t L k) (hk : k < L.length) (hx : ¬ L[k].t = t) : noneE t L (k + 1) := fun j e hj he => by
  by_cases e1 : j = k
  · subst e1; rw [List.getElem?_eq_getElem hk] at he; cases he; exact hx
  · exact h j e (by omega) he
theorem noneE_hit {t : Int} : ∀ {L : List En} {k : Nat}, noneE t L k → (hk : k < L.length) → L[k].t = t → posE t L = k ∧ isIn L t = true
  | [], _, _, hk, _ => by simp at hk
  | x :: xs, 0, _, _, hx => by
    have hx' : x.t = t := hx
    exact ⟨by simp [posE, hx'], isIn_iff.2 (mem_tix.2 ⟨x, by simp, hx'⟩)⟩
  | x :: xs, k + 1, h, hk, hx => by
    have h0 : ¬ x.t = t := h 0 x (by omega) rfl
    obtain ⟨h1, h2⟩ := noneE_hit (L := xs) (k := k) (fun j e hj he => h (j + 1) e (by omega) (by simpa using he)) (by simpa using hk) (by simpa using hx)
    refine ⟨by simp [posE, h0, h1], ?_⟩
    obtain ⟨e, he, ht⟩ := mem_tix.1 (isIn_iff.1 h2)
    exact isIn_iff.2 (mem_tix.2 ⟨e, by simp [he], ht⟩)
theorem noneE_all {t : Int} {L : List En} (h : noneE t L L.length) : isIn L t = false := by
  cases hi : isIn L t with
  | false => rfl
  | true =>
    obtain ⟨e, he, ht⟩ := mem_tix.1 (isIn_iff.1 hi)
    obtain ⟨j, hj, rfl⟩ := List.getElem_of_mem he
    exact absurd ht (h j _ hj (List.getElem?_eq_getElem hj))
/-- what the document's at tells -/
def atN (L : List En) (t : Int) : Int := if isIn L t = true then (posE t L : Int) else -1
theorem map_bmp_out {t : Int} : ∀ {L : List En}, (∀ e ∈ L, ¬ e.t = t) → L.map (bmp t) = L
  | [], _ => rfl
  | x :: xs, h => by
    rw [List.map_cons, map_bmp_out fun e he => h e (by simp [he])]
    simp [bmp, h x (by simp)]
theorem bmp_pos {t : Int} : ∀ {L : List En}, (tix L).Pairwise (· < ·) → isIn L t = true → L.map (bmp t) = L.set (posE t L) ⟨t, (ent L t).s, (ent L t).d + 1⟩
  | [], _, h => by cases h
  | x :: xs, hp, h => by
    have hp' := List.pairwise_cons.1 (show (x.t :: tix xs).Pairwise (· < ·) from hp)
    by_cases hx : x.t = t
    · have h0 : ∀ e ∈ xs, ¬ e.t = t := fun e he e2 => by have := hp'.1 _ (tix_mem he); omega
      have e1 : posE t (x :: xs) = 0 := by simp [posE, hx]
      have e2 : ent (x :: xs) t = x := by simp [ent, fnd, hx]
      rw [List.map_cons, map_bmp_out h0, e1, e2, List.set_cons_zero]
      simp [bmp, hx]
    · have h2 : isIn xs t = true := by
        obtain ⟨e, he, ht⟩ := mem_tix.1 (isIn_iff.1 h)
        rcases List.mem_cons.1 he with rfl | he
        · exact absurd ht hx
        · exact isIn_iff.2 (mem_tix.2 ⟨e, he, ht⟩)
      have e1 : posE t (x :: xs) = posE t xs + 1 := by simp [posE, hx]
      have e2 : ent (x :: xs) t = ent xs t := by simp [ent, fnd, hx]
      rw [List.map_cons, bmp_pos hp'.2 h2, e1, e2, List.set_cons_succ]
      simp [bmp, hx]
theorem filter_out {t : Int} : ∀ {L : List En}, (∀ e ∈ L, ¬ e.t = t) → drpL L t = L
  | [], _ => rfl
  | x :: xs, h => by
    have ih := filter_out (t := t) (L := xs) fun e he => h e (by simp [he])
    unfold drpL at ih ⊢
    rw [List.filter_cons, if_pos (by simpa using h x (by simp)), ih]
theorem drp_pos {t : Int} : ∀ {L : List En}, (tix L).Pairwise (· < ·) → drpL L t = L.take (posE t L) ++ L.drop (posE t L + 1)
  | [], _ => rfl
  | x :: xs, hp => by
    have hp' := List.pairwise_cons.1 (show (x.t :: tix xs).Pairwise (· < ·) from hp)
    by_cases hx : x.t = t
    · have h0 : ∀ e ∈ xs, ¬ e.t = t := fun e he e2 => by have := hp'.1 _ (tix_mem he); omega
      have e1 : posE t (x :: xs) = 0 := by simp [posE, hx]
      rw [e1]
      have := filter_out h0
      unfold drpL at this ⊢
      rw [List.filter_cons, if_neg (by simpa using hx), this]
      simp
    · have e1 : posE t (x :: xs) = posE t xs + 1 := by simp [posE, hx]
      have ih := drp_pos (t := t) hp'.2
      rw [e1]
      unfold drpL at ih ⊢
      rw [List.filter_cons, if_pos (by simpa using hx), ih]
      simp
/-- a block's queue, so far as it was gone through: i entries, and k blocks of the next one -/
def qP (L : List En) (b : Int) (i k : Nat) : List Int := qS (L.take i) b ++ (match L[i]? with | some e => if b ∈ e.s.take k then [e.t] else [] | none => [])
theorem qP_zero (L : List En) (b : Int) (i : Nat) : qP L b i 0 = qS (L.take i) b := by
  unfold qP
  cases L[i]? <;> simp
theorem qP_all {L : List En} {b : Int} {i : Nat} (hi : i < L.length) : qP L b i (L[i].s.length) = qS (L.take (i + 1)) b := by
  unfold qP
  rw [List.getElem?_eq_getElem hi, List.take_succ_eq_append_getElem hi, qS_snoc]
  simp only [List.take_length]
  by_cases hb : b ∈ L[i].s
  · rw [if_pos hb, if_pos (hsS_iff.2 hb)]
  · rw [if_neg hb, if_neg (fun e => hb (hsS_iff.1 e)), List.append_nil]
theorem take_one {s : List Int} {k : Nat} (hk : k < s.length) : s.take (k + 1) = s.take k ++ [s[k]] := List.take_succ_eq_append_getElem hk
theorem qP_hit {L : List En} {b : Int} {i k : Nat} (hi : i < L.length) (hu : L[i].s.Pairwise (· < ·)) (hk : k < L[i].s.length) (hb : L[i].s[k] = b) : qP L b i (k + 1) = qP L b i k ++ [L[i].t] := by
  unfold qP
  rw [List.getElem?_eq_getElem hi]
  dsimp only
  have h1 : b ∈ L[i].s.take (k + 1) := by rw [take_one hk, hb]; simp
  have h2 : ¬ b ∈ L[i].s.take k := fun h => by
    have hp := hu
    rw [← List.take_append_drop k L[i].s, List.pairwise_append] at hp
    have h3 : b ∈ L[i].s.drop k := by rw [List.drop_eq_getElem_cons hk, hb]; simp
    have := hp.2.2 b h b h3
    omega
  rw [if_pos h1, if_neg h2, List.append_nil]
theorem qP_miss {L : List En} {b : Int} {i k : Nat} (hi : i < L.length) (hk : k < L[i].s.length) (hb : ¬ L[i].s[k] = b) : qP L b i (k + 1) = qP L b i k := by
  unfold qP
  rw [List.getElem?_eq_getElem hi]
  dsimp only
  have h1 : b ∈ L[i].s.take (k + 1) ↔ b ∈ L[i].s.take k := by
    rw [take_one hk, List.mem_append, List.mem_singleton]
    exact ⟨fun h => h.elim id fun e => absurd e.symm hb, .inl⟩
  by_cases h2 : b ∈ L[i].s.take k
  · rw [if_pos h2, if_pos (h1.2 h2)]
  · rw [if_neg h2, if_neg (fun e => h2 (h1.1 e))]
theorem qP_len (L : List En) (b : Int) (i k : Nat) : (qP L b i k).length ≤ L.length + 1 := by
  unfold qP
  rw [List.length_append]
  have h1 : (qS (L.take i) b).length ≤ L.length := by
    unfold qS
    rw [List.length_map]
    refine Nat.le_trans (List.length_filter_le _ _) ?_
    rw [List.length_take]; omega
  have h2 : (match L[i]? with | some e => if b ∈ e.s.take k then [e.t] else [] | none => []).length ≤ 1 := by
    cases L[i]? with
    | none => simp
    | some e => dsimp only; split <;> simp
  omega
/-- nobody of the first i has it locked, nor is it among the first k of the next one -/
def noH (L : List En) (b : Int) (i k : Nat) : Prop := (∀ j e, j < i → L[j]? = some e → b ∉ e.held) ∧ ∀ e, L[i]? = some e → b ∉ e.s.take k
theorem noH_zero (L : List En) (b : Int) : noH L b 0 0 := ⟨fun j _ h => absurd h (Nat.not_lt_zero j), fun _ _ h => by simp at h⟩
theorem noH_step {L : List En} {b : Int} {i k : Nat} (h : noH L b i k) (hi : i < L.length) (hk : k < L[i].s.length) (hb : ¬ L[i].s[k] = b) : noH L b i (k + 1) := ⟨h.1, fun e he hm => by
  rw [List.getElem?_eq_getElem hi] at he
  cases he
  rw [take_one hk] at hm
  rcases List.mem_append.1 hm with hm | hm
  · exact h.2 _ (List.getElem?_eq_getElem hi) hm
  · simp at hm; exact hb hm.symm⟩
theorem noH_next {L : List En} {b : Int} {i : Nat} (hi : i < L.length) (h : noH L b i L[i].d) : noH L b (i + 1) 0 := ⟨fun j e hj he => by
  by_cases e1 : j = i
  · subst e1; rw [List.getElem?_eq_getElem hi] at he; cases he; exact h.2 _ (List.getElem?_eq_getElem hi)
  · exact h.1 j e (by omega) he, fun _ _ hm => by simp at hm⟩
theorem noH_hit {a : Lk} (ok : Ok a) {b : Int} {i k : Nat} (hi : i < a.L.length) (hk : k < a.L[i].d) (hks : k < a.L[i].s.length) (hb : a.L[i].s[k] = b) : hldB a.L b = true ∧ hldN a.L b = a.L[i].t := by
  refine (hld_iff ok b).2 _ (List.getElem_mem hi) ?_
  unfold En.held
  rw [← hb]
  exact List.mem_iff_getElem.2 ⟨k, by rw [List.length_take]; omega, by simp⟩
theorem noH_none {a : Lk} (ok : Ok a) {b : Int} (h : noH a.L b a.L.length 0) : hldB a.L b = false ∧ hldN a.L b = 0 := by
  have h1 : hldB a.L b = false := by
    cases e : hldB a.L b with
    | false => rfl
    | true =>
      obtain ⟨e, he, hb⟩ := (hld_iff ok b).1.1 e
      obtain ⟨j, hj, rfl⟩ := List.getElem_of_mem he
      exact absurd hb (h.1 j _ hj (List.getElem?_eq_getElem hj))
  exact ⟨h1, by simp [hldN, h1]⟩
theorem qS_len (L : List En) (b : Int) : (qS L b).length ≤ L.length := by
  unfold qS
  rw [List.length_map]
  exact List.length_filter_le _ _
/-- who is ready stands in the queue of its next block -/
theorem q_ne {L : List En} {t : Int} (h : (ent L t).nxB = true) : qS L (ent L t).nx ≠ [] := by
  have hi : isIn L t = true := by
    cases hi : isIn L t with
    | true => rfl
    | false => rw [(out_nx hi).1] at h; cases h
  obtain ⟨_, hm, _⟩ := isIn_ent hi
  obtain ⟨hd, e⟩ := nx_get h
  intro h0
  have : (ent L t).t ∈ qS L (ent L t).nx := qS_mem.2 ⟨_, hm, by rw [e]; exact List.getElem_mem hd, rfl⟩
  rw [h0] at this
  cases this
end Go.Proofs.Ytkffmglcllhbmaa
