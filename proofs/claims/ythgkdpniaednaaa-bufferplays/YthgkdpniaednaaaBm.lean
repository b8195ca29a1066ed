/-
  Plain mathematics of layer 16: images that rise by their blocks; the last write of each block.
-/
import Derived.Test.YthgkdpniaednaaaIa
namespace Go.Proofs.Ythgkdpniaednaaa
open Go.RowKit

/-- images rise by their blocks -/
abbrev UpI (L : List Im) : Prop := L.Pairwise (fun x y => x.b < y.b)
/-- where a block's image stands, or would have to -/
def plc (L : List Im) (b : Int) : Nat := L.countP (fun x => decide (x.b < b))
def isAt (L : List Im) (b : Int) : Bool := (L[plc L b]?).any (fun x => decide (x.b = b))
def gt (L : List Im) (b : Int) : Option (List Int) := (L.find? (fun x => decide (x.b = b))).map (·.v)
def pt (L : List Im) (b : Int) (v : List Int) : List Im := if isAt L b = true then L.set (plc L b) ⟨b, v⟩ else L.take (plc L b) ++ [⟨b, v⟩] ++ L.drop (plc L b)
theorem plc_le (L : List Im) (b : Int) : plc L b ≤ L.length := List.countP_le_length
theorem plc_nil (b : Int) : plc [] b = 0 := rfl
theorem plc_zero {L : List Im} {b : Int} (h : ∀ x ∈ L, b ≤ x.b) : plc L b = 0 := by
  rw [plc, List.countP_eq_zero]
  intro x hx
  have := h x hx
  simp; omega
theorem plc_cons {x : Im} {L : List Im} {b : Int} (hu : UpI (x :: L)) : plc (x :: L) b = if x.b < b then plc L b + 1 else 0 := by
  by_cases h : x.b < b
  · rw [if_pos h, plc, List.countP_cons_of_pos (by simpa using h)]; rfl
  · rw [if_neg h]
    refine plc_zero fun y hy => ?_
    rcases List.mem_cons.1 hy with rfl | hy
    · omega
    · have := (List.pairwise_cons.1 hu).1 y hy; omega
theorem plc_lt : ∀ {L : List Im} {b : Int}, UpI L → ∀ (j : Nat) (x : Im), j < plc L b → L[j]? = some x → x.b < b
  | [], b, _, j, x, h, _ => by simp [plc] at h
  | y :: L, b, hu, j, x, h, hx => by
    rw [plc_cons hu] at h
    by_cases hy : y.b < b
    · rw [if_pos hy] at h
      cases j with
      | zero => cases hx; exact hy
      | succ j => exact plc_lt (List.pairwise_cons.1 hu).2 j x (by omega) (by simpa using hx)
    · rw [if_neg hy] at h; omega
theorem plc_ge : ∀ {L : List Im} {b : Int}, UpI L → ∀ (j : Nat) (x : Im), plc L b ≤ j → L[j]? = some x → b ≤ x.b
  | [], b, _, j, x, _, hx => by simp at hx
  | y :: L, b, hu, j, x, h, hx => by
    rw [plc_cons hu] at h
    by_cases hy : y.b < b
    · rw [if_pos hy] at h
      cases j with
      | zero => omega
      | succ j => exact plc_ge (List.pairwise_cons.1 hu).2 j x (by omega) (by simpa using hx)
    · cases j with
      | zero => cases hx; omega
      | succ j =>
        have := (List.pairwise_cons.1 hu).1 x (List.mem_of_getElem? (by simpa using hx))
        omega
/-- there is just one such place -/
theorem plc_is {L : List Im} {b : Int} (hu : UpI L) {i : Nat} (hi : i ≤ L.length) (h1 : ∀ j x, j < i → L[j]? = some x → x.b < b) (h2 : ∀ j x, i ≤ j → L[j]? = some x → b ≤ x.b) : i = plc L b := by
  rcases Nat.lt_trichotomy i (plc L b) with h | h | h
  · have hl : i < L.length := Nat.lt_of_lt_of_le h (plc_le L b)
    have e := List.getElem?_eq_getElem hl
    have a := plc_lt hu i _ h e
    have c := h2 i _ (Nat.le_refl _) e
    omega
  · exact h
  · have hl : plc L b < L.length := by omega
    have e := List.getElem?_eq_getElem hl
    have a := plc_ge hu _ _ (Nat.le_refl _) e
    have c := h1 _ _ h e
    omega
theorem isAt_some {L : List Im} {b : Int} (h : isAt L b = true) : ∃ x, L[plc L b]? = some x ∧ x.b = b := by
  unfold isAt at h
  cases e : L[plc L b]? with
  | none => rw [e] at h; simp at h
  | some x => rw [e] at h; simp at h; exact ⟨x, rfl, h⟩
theorem isAt_none {L : List Im} {b : Int} (h : isAt L b = false) (x : Im) (hx : L[plc L b]? = some x) : x.b ≠ b := by
  unfold isAt at h
  rw [hx] at h; simpa using h
theorem gt_mem {L : List Im} {b : Int} {v : List Int} (h : gt L b = some v) : ⟨b, v⟩ ∈ L := by
  unfold gt at h
  cases e : L.find? (fun x => decide (x.b = b)) with
  | none => rw [e] at h; cases h
  | some x =>
    rw [e] at h
    simp at h
    have h1 := List.find?_some e
    have h2 := List.mem_of_find?_eq_some e
    simp at h1
    subst h1; subst h
    exact h2
theorem gt_none {L : List Im} {b : Int} (h : gt L b = none) (x : Im) (hx : x ∈ L) : x.b ≠ b := by
  unfold gt at h
  have := List.find?_eq_none.1 (Option.map_eq_none_iff.1 h) x hx
  simpa using this
theorem up_inj {L : List Im} (hu : UpI L) {x y : Im} (hx : x ∈ L) (hy : y ∈ L) (e : x.b = y.b) : x = y := by
  induction L with
  | nil => cases hx
  | cons z L ih =>
    have h1 := (List.pairwise_cons.1 hu).1
    rcases List.mem_cons.1 hx with e1 | hx' <;> rcases List.mem_cons.1 hy with e2 | hy'
    · rw [e1, e2]
    · have := h1 y hy'; rw [e1] at e; omega
    · have := h1 x hx'; rw [e2] at e; omega
    · exact ih (List.pairwise_cons.1 hu).2 hx' hy'
theorem gt_of {L : List Im} (hu : UpI L) {x : Im} (hx : x ∈ L) : gt L x.b = some x.v := by
  cases e : gt L x.b with
  | none => exact absurd rfl (gt_none e x hx)
  | some v => rw [← up_inj hu (gt_mem e) hx rfl]
theorem gt_at {L : List Im} {b : Int} (hu : UpI L) (h : isAt L b = true) {x : Im} (hx : L[plc L b]? = some x) : gt L b = some x.v := by
  obtain ⟨y, hy, hb⟩ := isAt_some h
  rw [hx] at hy; cases hy
  rw [← hb]; exact gt_of hu (List.mem_of_getElem? hx)
theorem gt_no {L : List Im} {b : Int} (hu : UpI L) (h : isAt L b = false) : gt L b = none := by
  cases e : gt L b with
  | none => rfl
  | some v =>
    have hm := gt_mem e
    obtain ⟨j, hj, ej⟩ := List.getElem_of_mem hm
    have e2 : L[j]? = some ⟨b, v⟩ := by rw [List.getElem?_eq_getElem hj, ej]
    rcases Nat.lt_trichotomy j (plc L b) with c | c | c
    · have := plc_lt hu j _ c e2; simp at this
    · subst c; exact absurd rfl (isAt_none h _ e2)
    · have hl : plc L b < L.length := by omega
      have e3 := List.getElem?_eq_getElem hl
      have a1 := plc_ge hu _ _ (Nat.le_refl _) e3
      have a2 := isAt_none h _ e3
      have a3 : (L[plc L b]).b < (L[j]).b := List.pairwise_iff_getElem.1 hu _ _ hl hj c
      rw [ej] at a3
      simp at a3
      omega
theorem isAt_gt {L : List Im} {b : Int} (hu : UpI L) : isAt L b = (gt L b).isSome := by
  cases e : isAt L b with
  | true => obtain ⟨x, hx, _⟩ := isAt_some e; rw [gt_at hu e hx]; rfl
  | false => rw [gt_no hu e]; rfl
theorem mem_pt {L : List Im} {b : Int} {v : List Int} (x : Im) (h : x ∈ pt L b v) : x = ⟨b, v⟩ ∨ x ∈ L := by
  unfold pt at h
  split at h
  · rcases List.mem_or_eq_of_mem_set h with h | h
    · exact .inr h
    · exact .inl h
  · rcases List.mem_append.1 h with h | h
    · rcases List.mem_append.1 h with h | h
      · exact .inr (List.mem_of_mem_take h)
      · exact .inl (List.mem_singleton.1 h)
    · exact .inr (List.mem_of_mem_drop h)
theorem pt_up {L : List Im} {b : Int} {v : List Int} (hu : UpI L) : UpI (pt L b v) := by
  unfold pt
  split
  · rename_i h
    obtain ⟨x, hx, hb⟩ := isAt_some h
    obtain ⟨hl, ex⟩ := List.getElem?_eq_some_iff.1 hx
    refine List.pairwise_iff_getElem.2 fun i j hi hj hij => ?_
    have k : ∀ m (hm : m < (L.set (plc L b) ⟨b, v⟩).length) (hm' : m < L.length), ((L.set (plc L b) ⟨b, v⟩)[m]).b = (L[m]).b := fun m hm hm' => by
      rw [List.getElem_set]
      split
      · rename_i e; subst e; rw [ex]; exact hb.symm
      · rfl
    rw [List.length_set] at hi hj
    rw [k i _ hi, k j _ hj]
    exact List.pairwise_iff_getElem.1 hu i j hi hj hij
  · rename_i h
    have h : isAt L b = false := by simpa using h
    have ht : ∀ x ∈ L.take (plc L b), x.b < b := fun x hx => by
      obtain ⟨j, hj, e⟩ := List.getElem_of_mem hx
      rw [List.length_take] at hj
      rw [List.getElem_take] at e
      exact plc_lt hu j x (by omega) (by rw [List.getElem?_eq_getElem (by omega), e])
    have hd : ∀ x ∈ L.drop (plc L b), b < x.b := fun x hx => by
      obtain ⟨j, hj, e⟩ := List.getElem_of_mem hx
      rw [List.length_drop] at hj
      rw [List.getElem_drop] at e
      have e2 : L[plc L b + j]? = some x := by rw [List.getElem?_eq_getElem (by omega), e]
      have a1 := plc_ge (b := b) hu _ x (by omega) e2
      have a2 : x.b ≠ b := fun eb => by
        have := gt_no hu h
        exact gt_none this x (List.mem_of_getElem? e2) eb
      omega
    rw [List.append_assoc]
    refine List.pairwise_append.2 ⟨hu.sublist (List.take_sublist _ _), ?_, fun x hx y hy => ?_⟩
    · rw [List.singleton_append]
      exact List.pairwise_cons.2 ⟨fun y hy => hd y hy, hu.sublist (List.drop_sublist _ _)⟩
    · rcases List.mem_append.1 hy with hy | hy
      · rw [List.mem_singleton.1 hy]; exact ht x hx
      · have := ht x hx; have := hd y hy; omega
theorem gt_pt {L : List Im} {b : Int} {v : List Int} (hu : UpI L) (c : Int) : gt (pt L b v) c = if c = b then some v else gt L c := by
  have hu' := pt_up (b := b) (v := v) hu
  have self : (⟨b, v⟩ : Im) ∈ pt L b v := by
    unfold pt; split
    · rename_i h
      obtain ⟨x, hx, _⟩ := isAt_some h
      exact List.mem_set (List.getElem?_eq_some_iff.1 hx).1 _
    · simp
  have old : ∀ x ∈ L, x.b ≠ b → x ∈ pt L b v := fun x hx hne => by
    unfold pt; split
    · rename_i h
      obtain ⟨y, hy, hyb⟩ := isAt_some h
      obtain ⟨j, hj, e⟩ := List.getElem_of_mem hx
      have hjn : plc L b ≠ j := fun e2 => by
        subst e2
        rw [List.getElem?_eq_getElem hj, e] at hy
        cases hy
        exact hne hyb
      exact List.mem_iff_getElem.2 ⟨j, by rw [List.length_set]; exact hj, by rw [List.getElem_set_ne hjn]; exact e⟩
    · have : x ∈ L.take (plc L b) ++ L.drop (plc L b) := by rw [List.take_append_drop]; exact hx
      rcases List.mem_append.1 this with h | h <;> simp [h]
  by_cases hc : c = b
  · subst hc
    rw [if_pos rfl]
    exact gt_of hu' self
  · rw [if_neg hc]
    cases e : gt L c with
    | some u => exact gt_of hu' (old _ (gt_mem e) hc)
    | none =>
      cases e2 : gt (pt L b v) c with
      | none => rfl
      | some u =>
        rcases mem_pt _ (gt_mem e2) with h | h
        · injection h with h1 h2; exact absurd h1 hc
        · exact absurd rfl (gt_none e _ h)
theorem ims_ext : ∀ {L M : List Im}, UpI L → UpI M → (∀ c, gt L c = gt M c) → L = M
  | [], [], _, _, _ => rfl
  | [], y :: M, _, hm, h => by
    have := gt_of hm (List.mem_cons_self (a := y) (l := M))
    rw [← h] at this; cases this
  | x :: L, [], hl, _, h => by
    have := gt_of hl (List.mem_cons_self (a := x) (l := L))
    rw [h] at this; cases this
  | x :: L, y :: M, hl, hm, h => by
    have h1 := (List.pairwise_cons.1 hl).1
    have h2 := (List.pairwise_cons.1 hm).1
    have gx := gt_of hl (List.mem_cons_self (a := x) (l := L))
    have gy := gt_of hm (List.mem_cons_self (a := y) (l := M))
    have mx := gt_mem ((h _).symm.trans gx)
    have my := gt_mem ((h _).trans gy)
    have exy : x = y := by
      rcases List.mem_cons.1 mx with e | e
      · exact e
      · rcases List.mem_cons.1 my with e' | e'
        · exact e'.symm
        · have a := h2 _ e; have b := h1 _ e'; simp at a b; omega
    subst exy
    congr 1
    refine ims_ext (List.pairwise_cons.1 hl).2 (List.pairwise_cons.1 hm).2 fun c => ?_
    have hc := h c
    unfold gt at hc ⊢
    by_cases e : x.b = c
    · subst e
      have n1 : L.find? (fun z => decide (z.b = x.b)) = none := List.find?_eq_none.2 fun z hz => by have := h1 z hz; simp; omega
      have n2 : M.find? (fun z => decide (z.b = x.b)) = none := List.find?_eq_none.2 fun z hz => by have := h2 z hz; simp; omega
      rw [n1, n2]
    · rw [List.find?_cons_of_neg (by simpa using e), List.find?_cons_of_neg (by simpa using e)] at hc
      exact hc
theorem pt_len (L : List Im) (b : Int) (v : List Int) : (pt L b v).length = L.length + (if isAt L b = true then 0 else 1) := by
  unfold pt
  split
  · simp
  · have := plc_le L b
    simp only [List.length_append, List.length_take, List.length_drop, List.length_singleton]; omega
theorem up_len {F : List Int} : ∀ {L : List Im}, UpI L → F.Pairwise (· < ·) → (∀ x ∈ L, x.b ∈ F) → L.length ≤ F.length := by
  induction F with
  | nil =>
    intro L _ _ h
    cases L with
    | nil => exact Nat.le_refl _
    | cons x L => cases h x (List.mem_cons_self ..)
  | cons f F ih =>
    intro L hu hf h
    cases L with
    | nil => exact Nat.zero_le _
    | cons x L =>
      rw [List.length_cons, List.length_cons]
      refine Nat.succ_le_succ (ih (List.pairwise_cons.1 hu).2 (List.pairwise_cons.1 hf).2 fun y hy => ?_)
      have hxy := (List.pairwise_cons.1 hu).1 y hy
      rcases List.mem_cons.1 (h y (List.mem_cons_of_mem _ hy)) with e | e
      · exfalso
        rcases List.mem_cons.1 (h x (List.mem_cons_self ..)) with e2 | e2
        · omega
        · have := (List.pairwise_cons.1 hf).1 _ e2; omega
      · exact e
theorem pt_wf {L : List Im} {b : Int} {v : List Int} (h : ImsWf L) (hx : Im.Wf ⟨b, v⟩) : ImsWf (pt L b v) := fun x hm => by
  rcases mem_pt x hm with rfl | hm
  · exact hx
  · exact h x hm
/-- the last write of a block; the images that a form's writes make -/
def lst (W : List Im) (b : Int) : Option (List Int) := gt W.reverse b
theorem lst_snoc (W : List Im) (x : Im) (c : Int) : lst (W ++ [x]) c = if c = x.b then some x.v else lst W c := by
  unfold lst gt
  rw [List.reverse_append, List.reverse_singleton, List.singleton_append]
  by_cases h : c = x.b
  · rw [if_pos h, List.find?_cons_of_pos (by simp [h])]; rfl
  · rw [if_neg h, List.find?_cons_of_neg (by simp; omega)]
theorem lst_mem {W : List Im} {b : Int} {v : List Int} (h : lst W b = some v) : ⟨b, v⟩ ∈ W := by simpa using gt_mem h
def ims (F : List Int) (W : List Im) : List Im := F.filterMap (fun b => (lst W b).map (fun v => ⟨b, v⟩))
theorem mem_ims {F : List Int} {W : List Im} {x : Im} : x ∈ ims F W ↔ x.b ∈ F ∧ lst W x.b = some x.v := by
  unfold ims
  rw [List.mem_filterMap]
  constructor
  · rintro ⟨b, hb, e⟩
    cases h : lst W b with
    | none => rw [h] at e; cases e
    | some v => rw [h] at e; cases e; exact ⟨hb, h⟩
  · rintro ⟨h1, h2⟩
    exact ⟨x.b, h1, by rw [h2]; rfl⟩
theorem ims_up {F : List Int} {W : List Im} (hf : F.Pairwise (· < ·)) : UpI (ims F W) := by
  induction F with
  | nil => exact List.Pairwise.nil
  | cons f F ih =>
    have h1 := (List.pairwise_cons.1 hf).1
    have h2 := ih (List.pairwise_cons.1 hf).2
    unfold ims
    rw [List.filterMap_cons]
    split
    · exact h2
    · rename_i x e
      refine List.pairwise_cons.2 ⟨fun y hy => ?_, h2⟩
      have hy' : y ∈ ims F W := hy
      have := h1 _ (mem_ims.1 hy').1
      cases h : lst W f with
      | none => rw [h] at e; cases e
      | some v => rw [h] at e; cases e; exact this
theorem gt_ims {F : List Int} {W : List Im} (hf : F.Pairwise (· < ·)) {c : Int} (hc : c ∈ F) : gt (ims F W) c = lst W c := by
  cases h : lst W c with
  | some v => exact gt_of (ims_up hf) (x := ⟨c, v⟩) (mem_ims.2 ⟨hc, h⟩)
  | none =>
    cases e : gt (ims F W) c with
    | none => rfl
    | some v => have := (mem_ims.1 (gt_mem e)).2; rw [h] at this; cases this
theorem gt_ims_out {F : List Int} {W : List Im} {c : Int} (hc : c ∉ F) : gt (ims F W) c = none := by
  cases e : gt (ims F W) c with
  | none => rfl
  | some v => exact absurd (mem_ims.1 (gt_mem e)).1 hc
/-- a write -/
theorem pt_ims {F : List Int} {W : List Im} (hf : F.Pairwise (· < ·)) {b : Int} (hb : b ∈ F) (v : List Int) : pt (ims F W) b v = ims F (W ++ [⟨b, v⟩]) := by
  refine ims_ext (pt_up (ims_up hf)) (ims_up hf) fun c => ?_
  rw [gt_pt (ims_up hf)]
  by_cases hc : c ∈ F
  · rw [gt_ims hf hc, gt_ims hf hc, lst_snoc]
  · rw [gt_ims_out hc, gt_ims_out hc, if_neg (fun e : c = b => hc (e ▸ hb))]
theorem ims_nil (F : List Int) : ims F [] = [] := by
  induction F with
  | nil => rfl
  | cons f F ih => unfold ims at ih ⊢; rw [List.filterMap_cons]; exact ih
theorem ims_wf {F : List Int} {W : List Im} (h : ImsWf W) : ImsWf (ims F W) := fun x hx => h x (lst_mem (mem_ims.1 hx).2)
theorem ims_in {F : List Int} {W : List Im} : ∀ x ∈ ims F W, x.b ∈ F := fun _ hx => (mem_ims.1 hx).1
end Go.Proofs.Ythgkdpniaednaaa
