/-
  Plain mathematics of layer 17: entries that rise by their blocks.
-/
import Derived.Test.YthcpnfelnonhnaaDoorIa
namespace Go.Proofs.YthcpnfelnonhnaaDoor
open Go.RowKit

/-- an entry -/
structure En where
  b : Int
  v : List Int
  p : Int
structure En.Wf (e : En) : Prop where
  b : i64 e.b
  len : e.v.length = 32
  byte : Bytes e.v
  p : 0 ≤ e.p ∧ e.p < 18446744073709551616
def EnsWf (l : List En) : Prop := ∀ e ∈ l, e.Wf
theorem EnsWf.nil : EnsWf [] := fun _ h => by cases h
theorem EnsWf.snoc {l : List En} (h : EnsWf l) {i : En} (hi : i.Wf) : EnsWf (l ++ [i]) := fun x hx => by
  rcases List.mem_append.1 hx with hx | hx
  · exact h x hx
  · rw [List.mem_singleton.1 hx]; exact hi
theorem EnsWf.append {l m : List En} (h : EnsWf l) (k : EnsWf m) : EnsWf (l ++ m) := fun x hx => (List.mem_append.1 hx).elim (h x) (k x)
theorem EnsWf.sub {l m : List En} (h : EnsWf l) (k : ∀ x ∈ m, x ∈ l) : EnsWf m := fun x hx => h x (k x hx)
/-- entries rise by their blocks -/
abbrev UpE (L : List En) : Prop := L.Pairwise (fun x y => x.b < y.b)
/-- where a block's entry stands, or would have to -/
def ple (L : List En) (b : Int) : Nat := L.countP (fun x => decide (x.b < b))
def isE (L : List En) (b : Int) : Bool := (L[ple L b]?).any (fun x => decide (x.b = b))
/-- a block's entry -/
def gtE (L : List En) (b : Int) : Option En := L.find? (fun x => decide (x.b = b))
/-- an entry is laid in -/
def layE (L : List En) (e : En) : List En := L.filter (fun x => decide (x.b < e.b)) ++ [e] ++ L.filter (fun x => decide (e.b < x.b))
/-- is it still this one? -/
def isD (e x : En) : Bool := decide (x.b = e.b) && decide (x.p = e.p)
def drpE (L : List En) (e : En) : List En := L.filter (fun x => !isD e x)
def drpN (L : List En) (e : En) : Nat := L.countP (isD e)
theorem ple_le (L : List En) (b : Int) : ple L b ≤ L.length := List.countP_le_length
theorem ple_zero {L : List En} {b : Int} (h : ∀ x ∈ L, b ≤ x.b) : ple L b = 0 := by
  rw [ple, List.countP_eq_zero]
  intro x hx
  have := h x hx
  simp; omega
theorem ple_cons {x : En} {L : List En} {b : Int} (hu : UpE (x :: L)) : ple (x :: L) b = if x.b < b then ple L b + 1 else 0 := by
  by_cases h : x.b < b
  · rw [if_pos h, ple, List.countP_cons_of_pos (by simpa using h)]; rfl
  · rw [if_neg h]
    refine ple_zero fun y hy => ?_
    rcases List.mem_cons.1 hy with rfl | hy
    · omega
    · have := (List.pairwise_cons.1 hu).1 y hy; omega
theorem ple_lt : ∀ {L : List En} {b : Int}, UpE L → ∀ (j : Nat) (x : En), j < ple L b → L[j]? = some x → x.b < b
  | [], b, _, j, x, h, _ => by simp [ple] at h
  | y :: L, b, hu, j, x, h, hx => by
    rw [ple_cons hu] at h
    by_cases hy : y.b < b
    · rw [if_pos hy] at h
      cases j with
      | zero => cases hx; exact hy
      | succ j => exact ple_lt (List.pairwise_cons.1 hu).2 j x (by omega) (by simpa using hx)
    · rw [if_neg hy] at h; omega
theorem ple_ge : ∀ {L : List En} {b : Int}, UpE L → ∀ (j : Nat) (x : En), ple L b ≤ j → L[j]? = some x → b ≤ x.b
  | [], b, _, j, x, _, hx => by simp at hx
  | y :: L, b, hu, j, x, h, hx => by
    rw [ple_cons hu] at h
    by_cases hy : y.b < b
    · rw [if_pos hy] at h
      cases j with
      | zero => omega
      | succ j => exact ple_ge (List.pairwise_cons.1 hu).2 j x (by omega) (by simpa using hx)
    · cases j with
      | zero => cases hx; omega
      | succ j =>
        have := (List.pairwise_cons.1 hu).1 x (List.mem_of_getElem? (by simpa using hx))
        omega
/-- there is just one such place -/
theorem ple_is {L : List En} {b : Int} (hu : UpE L) {i : Nat} (hi : i ≤ L.length) (h1 : ∀ j x, j < i → L[j]? = some x → x.b < b) (h2 : ∀ j x, i ≤ j → L[j]? = some x → b ≤ x.b) : i = ple L b := by
  rcases Nat.lt_trichotomy i (ple L b) with h | h | h
  · have hl : i < L.length := Nat.lt_of_lt_of_le h (ple_le L b)
    have e := List.getElem?_eq_getElem hl
    have a := ple_lt hu i _ h e
    have c := h2 i _ (Nat.le_refl _) e
    omega
  · exact h
  · have hl : ple L b < L.length := by omega
    have e := List.getElem?_eq_getElem hl
    have a := ple_ge hu _ _ (Nat.le_refl _) e
    have c := h1 _ _ h e
    omega
theorem isE_some {L : List En} {b : Int} (h : isE L b = true) : ∃ x, L[ple L b]? = some x ∧ x.b = b := by
  unfold isE at h
  cases e : L[ple L b]? with
  | none => rw [e] at h; simp at h
  | some x => rw [e] at h; simp at h; exact ⟨x, rfl, h⟩
theorem isE_none {L : List En} {b : Int} (h : isE L b = false) (x : En) (hx : L[ple L b]? = some x) : x.b ≠ b := by
  unfold isE at h
  rw [hx] at h; simpa using h
theorem take_ple : ∀ {L : List En} {b : Int}, UpE L → L.take (ple L b) = L.filter (fun x => decide (x.b < b))
  | [], b, _ => rfl
  | y :: L, b, hu => by
    have hu' := List.pairwise_cons.1 hu
    rw [ple_cons hu]
    by_cases hy : y.b < b
    · rw [if_pos hy, List.take_succ_cons, take_ple hu'.2, List.filter_cons_of_pos (by simpa using hy)]
    · rw [if_neg hy, List.take_zero]
      refine (List.filter_eq_nil_iff.2 fun x hx => ?_).symm
      rcases List.mem_cons.1 hx with rfl | hx
      · simpa using hy
      · have := hu'.1 x hx; simp; omega
theorem drop_ple : ∀ {L : List En} {b : Int}, UpE L → L.drop (ple L b) = L.filter (fun x => decide (b ≤ x.b))
  | [], b, _ => by simp
  | y :: L, b, hu => by
    have hu' := List.pairwise_cons.1 hu
    rw [ple_cons hu]
    by_cases hy : y.b < b
    · rw [if_pos hy, List.drop_succ_cons, drop_ple hu'.2, List.filter_cons_of_neg (by simp; omega)]
    · rw [if_neg hy, List.drop_zero]
      refine (List.filter_eq_self.2 fun x hx => ?_).symm
      rcases List.mem_cons.1 hx with rfl | hx
      · simpa using hy
      · have := hu'.1 x hx; simp; omega
theorem drop_at {L : List En} {b : Int} (hu : UpE L) (h : isE L b = true) : L.drop (ple L b + 1) = L.filter (fun x => decide (b < x.b)) := by
  obtain ⟨x, hx, hb⟩ := isE_some h
  obtain ⟨hl, ex⟩ := List.getElem?_eq_some_iff.1 hx
  have e1 := drop_ple (b := b) hu
  rw [List.drop_eq_getElem_cons hl, ex] at e1
  have e2 : (L.filter (fun x => decide (b ≤ x.b))).filter (fun x => decide (b < x.b)) = L.filter (fun x => decide (b < x.b)) := by
    rw [List.filter_filter]
    refine List.filter_congr fun y _ => ?_
    by_cases c : b < y.b
    · simp [c]; omega
    · simp [c]
  rw [← e2, ← e1, List.filter_cons_of_neg (by simp; omega)]
  refine (List.filter_eq_self.2 fun y hy => ?_).symm
  obtain ⟨j, hj, ej⟩ := List.getElem_of_mem hy
  rw [List.length_drop] at hj
  rw [List.getElem_drop] at ej
  have := List.pairwise_iff_getElem.1 hu (ple L b) (ple L b + 1 + j) hl (by omega) (by omega)
  rw [ex, ej] at this
  simp; omega
theorem drop_no {L : List En} {b : Int} (hu : UpE L) (h : isE L b = false) : L.drop (ple L b) = L.filter (fun x => decide (b < x.b)) := by
  rw [drop_ple hu]
  refine List.filter_congr fun y hy => ?_
  by_cases c : y.b = b
  · exfalso
    obtain ⟨j, hj, ej⟩ := List.getElem_of_mem hy
    have ey : L[j]? = some y := by rw [List.getElem?_eq_getElem hj, ej]
    rcases Nat.lt_trichotomy j (ple L b) with k | k | k
    · have := ple_lt hu j y k ey; omega
    · subst k; exact isE_none h y ey c
    · have hl : ple L b < L.length := by omega
      have e3 := List.getElem?_eq_getElem hl
      have a1 := ple_ge hu _ _ (Nat.le_refl _) e3
      have a3 := List.pairwise_iff_getElem.1 hu _ _ hl hj k
      rw [ej] at a3
      omega
  · have : b ≤ y.b ↔ b < y.b := by omega
    simp [this]
/-- what the program does is that -/
theorem lay_at {L : List En} {e : En} (hu : UpE L) (h : isE L e.b = true) : L.set (ple L e.b) e = layE L e := by
  obtain ⟨x, hx, _⟩ := isE_some h
  have hl := (List.getElem?_eq_some_iff.1 hx).1
  rw [List.set_eq_take_append_cons_drop, if_pos hl, take_ple hu, drop_at hu h]
  simp [layE]
theorem lay_no {L : List En} {e : En} (hu : UpE L) (h : isE L e.b = false) : L.take (ple L e.b) ++ [e] ++ L.drop (ple L e.b) = layE L e := by
  rw [take_ple hu, drop_no hu h]; rfl
theorem mem_lay {L : List En} {e x : En} : x ∈ layE L e ↔ x = e ∨ (x ∈ L ∧ x.b ≠ e.b) := by
  unfold layE
  simp only [List.mem_append, List.mem_filter, List.mem_singleton, decide_eq_true_eq]
  constructor
  · rintro ((⟨h, c⟩ | h) | ⟨h, c⟩)
    · exact .inr ⟨h, by omega⟩
    · exact .inl h
    · exact .inr ⟨h, by omega⟩
  · rintro (h | ⟨h, c⟩)
    · exact .inl (.inr h)
    · by_cases k : x.b < e.b
      · exact .inl (.inl ⟨h, k⟩)
      · exact .inr ⟨h, by omega⟩
theorem lay_up {L : List En} {e : En} (hu : UpE L) : UpE (layE L e) := by
  unfold layE
  rw [List.append_assoc]
  refine List.pairwise_append.2 ⟨hu.sublist (List.filter_sublist), ?_, fun x hx y hy => ?_⟩
  · rw [List.singleton_append]
    exact List.pairwise_cons.2 ⟨fun y hy => by simpa using (List.mem_filter.1 hy).2, hu.sublist (List.filter_sublist)⟩
  · have h1 : x.b < e.b := by simpa using (List.mem_filter.1 hx).2
    rcases List.mem_append.1 hy with hy | hy
    · rw [List.mem_singleton.1 hy]; exact h1
    · have h2 : e.b < y.b := by simpa using (List.mem_filter.1 hy).2
      omega
theorem up_injE {L : List En} (hu : UpE L) {x y : En} (hx : x ∈ L) (hy : y ∈ L) (e : x.b = y.b) : x = y := by
  induction L with
  | nil => cases hx
  | cons z L ih =>
    have h1 := (List.pairwise_cons.1 hu).1
    rcases List.mem_cons.1 hx with e1 | hx' <;> rcases List.mem_cons.1 hy with e2 | hy'
    · rw [e1, e2]
    · have := h1 y hy'; rw [e1] at e; omega
    · have := h1 x hx'; rw [e2] at e; omega
    · exact ih (List.pairwise_cons.1 hu).2 hx' hy'
theorem gt_some {L : List En} {b : Int} {x : En} (h : gtE L b = some x) : x ∈ L ∧ x.b = b :=
  ⟨List.mem_of_find?_eq_some h, by simpa using List.find?_some h⟩
theorem gt_noneE {L : List En} {b : Int} (h : gtE L b = none) (x : En) (hx : x ∈ L) : x.b ≠ b := by
  simpa using List.find?_eq_none.1 h x hx
theorem gt_mem {L : List En} {x : En} (hu : UpE L) (hx : x ∈ L) : gtE L x.b = some x := by
  cases e : gtE L x.b with
  | none => exact absurd rfl (gt_noneE e x hx)
  | some y => rw [up_injE hu (gt_some e).1 hx (gt_some e).2]
theorem gt_at {L : List En} {b : Int} (hu : UpE L) (h : isE L b = true) {x : En} (hx : L[ple L b]? = some x) : gtE L b = some x := by
  obtain ⟨y, hy, hb⟩ := isE_some h
  rw [hx] at hy; cases hy
  rw [← hb]; exact gt_mem hu (List.mem_of_getElem? hx)
theorem gt_no {L : List En} {b : Int} (hu : UpE L) (h : isE L b = false) : gtE L b = none := by
  cases e : gtE L b with
  | none => rfl
  | some y =>
    obtain ⟨hm, hb⟩ := gt_some e
    have h1 : y ∈ L.drop (ple L b) := by rw [drop_ple hu]; exact List.mem_filter.2 ⟨hm, by simp; omega⟩
    rw [drop_no hu h] at h1
    have h2 : b < y.b := by simpa using (List.mem_filter.1 h1).2
    omega
theorem gt_layE {L : List En} {e : En} (hu : UpE L) (b : Int) : gtE (layE L e) b = if b = e.b then some e else gtE L b := by
  by_cases h : b = e.b
  · rw [if_pos h, h]; exact gt_mem (lay_up hu) (mem_lay.2 (.inl rfl))
  · rw [if_neg h]
    cases k : gtE L b with
    | none =>
      cases k2 : gtE (layE L e) b with
      | none => rfl
      | some y =>
        obtain ⟨hm, hb⟩ := gt_some k2
        rcases mem_lay.1 hm with e1 | ⟨hm, _⟩
        · rw [e1] at hb; exact absurd hb.symm h
        · exact absurd hb (gt_noneE k y hm)
    | some y =>
      obtain ⟨hm, hb⟩ := gt_some k
      rw [← hb]; exact gt_mem (lay_up hu) (mem_lay.2 (.inr ⟨hm, by omega⟩))
/-- dropping -/
theorem drp_up {L : List En} {e : En} (hu : UpE L) : UpE (drpE L e) := hu.sublist (List.filter_sublist)
theorem mem_drp {L : List En} {e x : En} : x ∈ drpE L e ↔ x ∈ L ∧ isD e x = false := by
  unfold drpE
  rw [List.mem_filter]; simp
theorem drp_len (L : List En) (e : En) : (drpE L e).length + drpN L e = L.length := by
  unfold drpE drpN
  induction L with
  | nil => rfl
  | cons x L ih => cases h : isD e x <;> simp [h] <;> omega
theorem drp_at {L : List En} {e : En} (hu : UpE L) (h : isE L e.b = true) {x : En} (hx : L[ple L e.b]? = some x) (hp : x.p = e.p) : L.take (ple L e.b) ++ L.drop (ple L e.b + 1) = drpE L e ∧ drpN L e = 1 := by
  obtain ⟨y, hy, hb⟩ := isE_some h
  rw [hx] at hy; cases hy
  obtain ⟨hl, ex⟩ := List.getElem?_eq_some_iff.1 hx
  have e0 : L.take (ple L e.b) ++ L.drop (ple L e.b + 1) = drpE L e := by
    have e1 : L = L.take (ple L e.b) ++ x :: L.drop (ple L e.b + 1) := by rw [← ex, ← List.drop_eq_getElem_cons hl, List.take_append_drop]
    unfold drpE
    have a1 : (L.take (ple L e.b)).filter (fun x => !isD e x) = L.take (ple L e.b) := List.filter_eq_self.2 fun z hz => by
      rw [take_ple hu] at hz
      have : z.b < e.b := by simpa using (List.mem_filter.1 hz).2
      have n : z.b ≠ e.b := by omega
      simp [isD, n]
    have a2 : (L.drop (ple L e.b + 1)).filter (fun x => !isD e x) = L.drop (ple L e.b + 1) := List.filter_eq_self.2 fun z hz => by
      rw [drop_at hu h] at hz
      have : e.b < z.b := by simpa using (List.mem_filter.1 hz).2
      have n : z.b ≠ e.b := by omega
      simp [isD, n]
    conv => rhs; rw [e1]
    rw [List.filter_append, a1, List.filter_cons_of_neg (by simp [isD, hb, hp]), a2]
  refine ⟨e0, ?_⟩
  have l := drp_len L e
  rw [← e0, List.length_append, List.length_take, List.length_drop] at l
  omega
theorem drp_no {L : List En} {e : En} (hu : UpE L) (h : ∀ x, isE L e.b = true → L[ple L e.b]? = some x → x.p ≠ e.p) : drpE L e = L ∧ drpN L e = 0 := by
  have key : ∀ x ∈ L, isD e x = false := fun x hx => by
    cases c : isD e x with
    | false => rfl
    | true =>
      exfalso
      have c2 : x.b = e.b ∧ x.p = e.p := by simpa [isD] using c
      cases k : isE L e.b with
      | false => exact gt_noneE (gt_no hu k) x hx c2.1
      | true =>
        obtain ⟨y, hy, hb⟩ := isE_some k
        have := up_injE hu hx (List.mem_of_getElem? hy) (by omega)
        subst this
        exact h x k hy c2.2
  have e0 : drpE L e = L := List.filter_eq_self.2 fun x hx => by simp [key x hx]
  refine ⟨e0, ?_⟩
  have l := drp_len L e
  rw [e0] at l; omega
theorem gt_drp {L : List En} {e : En} (hu : UpE L) (b : Int) : gtE (drpE L e) b = (gtE L b).filter (fun x => !isD e x) := by
  cases k : gtE L b with
  | none =>
    cases k2 : gtE (drpE L e) b with
    | none => rfl
    | some y =>
      obtain ⟨hm, hb⟩ := gt_some k2
      exact absurd hb (gt_noneE k y (mem_drp.1 hm).1)
  | some y =>
    obtain ⟨hm, hb⟩ := gt_some k
    cases c : isD e y with
    | false => rw [Option.filter_some, c, ← hb]; exact gt_mem (drp_up hu) (mem_drp.2 ⟨hm, c⟩)
    | true =>
      rw [Option.filter_some, c]
      cases k2 : gtE (drpE L e) b with
      | none => rfl
      | some z =>
        obtain ⟨hm2, hb2⟩ := gt_some k2
        obtain ⟨hm3, hd⟩ := mem_drp.1 hm2
        have := up_injE hu hm3 hm (by omega)
        rw [this, c] at hd; cases hd
/-- a list that rises within so many numbers is no longer than they are many -/
theorem up_few : ∀ {L : List En} {n a : Int}, UpE L → (∀ x ∈ L, a ≤ x.b ∧ x.b < n) → (L.length : Int) ≤ max (n - a) 0
  | [], _, _, _, _ => by simp; omega
  | x :: L, n, a, hu, h => by
    have h0 := h x List.mem_cons_self
    have ih := up_few (a := x.b + 1) (n := n) (List.pairwise_cons.1 hu).2 fun y hy => ⟨by have := (List.pairwise_cons.1 hu).1 y hy; omega, (h y (List.mem_cons_of_mem _ hy)).2⟩
    rw [List.length_cons]
    omega
/-- dropping one behind the other: what is left, and how many went -/
def drps (L : List En) (l : List En) : List En := l.foldl drpE L
def drpsN : List En → List En → Nat
  | _, [] => 0
  | L, e :: l => drpN L e + drpsN (drpE L e) l
theorem drps_nil (L : List En) : drps L [] = L := rfl
theorem drps_snoc (L l : List En) (e : En) : drps L (l ++ [e]) = drpE (drps L l) e := by simp [drps]
theorem drpsN_snoc : ∀ (L l : List En) (e : En), drpsN L (l ++ [e]) = drpsN L l + drpN (drps L l) e
  | L, [], e => by simp [drpsN, drps]
  | L, x :: l, e => by
    rw [List.cons_append, drpsN, drpsN_snoc (drpE L x) l e, drpsN]
    simp only [drps, List.foldl_cons]
    omega
theorem drps_up {L : List En} (hu : UpE L) : ∀ (l : List En), UpE (drps L l) := fun l => by
  induction l generalizing L with
  | nil => exact hu
  | cons e l ih => exact ih (drp_up hu)
theorem drps_mem {L l : List En} {x : En} : x ∈ drps L l ↔ x ∈ L ∧ ∀ e ∈ l, isD e x = false := by
  induction l generalizing L with
  | nil => simp [drps]
  | cons e l ih =>
    rw [show drps L (e :: l) = drps (drpE L e) l from rfl, ih, mem_drp]
    simp [and_assoc]
theorem drps_len : ∀ (L l : List En), (drps L l).length + drpsN L l = L.length
  | L, [] => rfl
  | L, e :: l => by
    have h1 := drps_len (drpE L e) l
    have h2 := drp_len L e
    rw [show drps L (e :: l) = drps (drpE L e) l from rfl, drpsN]
    omega
/-- a commit's images laid in -/
def lays (L : List En) (l : List Im) (p : Int) : List En := l.foldl (fun L i => layE L ⟨i.b, i.v, p⟩) L
theorem lays_snoc (L : List En) (l : List Im) (i : Im) (p : Int) : lays L (l ++ [i]) p = layE (lays L l p) ⟨i.b, i.v, p⟩ := by simp [lays]
theorem lays_up {L : List En} (hu : UpE L) (p : Int) : ∀ (l : List Im), UpE (lays L l p) := fun l => by
  induction l generalizing L with
  | nil => exact hu
  | cons i l ih => exact ih (lay_up hu)
/-- do images rise? -/
def upI (l : List Im) : Bool := decide (∀ j, j < l.length - 1 → (l.getD j im0).b < (l.getD (j + 1) im0).b)
/-- is a block out of so many? -/
def outI (n : Int) (i : Im) : Bool := decide (i.b < 0) || decide (n ≤ i.b)
/-- why a Put is refused -/
def putE (n nx : Int) (l : List Im) (p : Int) : Int := if l.any (outI n) = true then 51 else if upI l = false then 53 else if p < nx ∨ 4611686018427387904 < p then 30 else 0
/-- what a cache is -/
structure Okc (n : Int) (L : List En) (nx : Int) : Prop where
  n1 : 1 ≤ n
  n64 : n ≤ 64
  up : UpE L
  ins : ∀ x ∈ L, 0 ≤ x.b ∧ x.b < n
  wf : EnsWf L
  nx0 : 0 ≤ nx
  nx1 : nx ≤ 4611686018427387905
theorem Okc.few {n nx : Int} {L : List En} (h : Okc n L nx) : L.length ≤ 64 := by
  have := up_few (a := 0) (n := n) h.up h.ins
  have := h.n64; have := h.n1
  omega
theorem Okc.new {n : Int} (h1 : 1 ≤ n) (h2 : n ≤ 64) : Okc n [] 0 := ⟨h1, h2, List.Pairwise.nil, fun _ h => (List.not_mem_nil h).elim, EnsWf.nil, by omega, by omega⟩
theorem Okc.lay {n nx : Int} {L : List En} (h : Okc n L nx) {e : En} (he : e.Wf) (hb : 0 ≤ e.b ∧ e.b < n) : Okc n (layE L e) nx :=
  ⟨h.n1, h.n64, lay_up h.up, fun x hx => by rcases mem_lay.1 hx with rfl | ⟨hx, _⟩; exact hb; exact h.ins x hx, fun x hx => by rcases mem_lay.1 hx with rfl | ⟨hx, _⟩; exact he; exact h.wf x hx, h.nx0, h.nx1⟩
theorem Okc.drop {n nx : Int} {L : List En} (h : Okc n L nx) (e : En) : Okc n (drpE L e) nx :=
  ⟨h.n1, h.n64, drp_up h.up, fun x hx => h.ins x (mem_drp.1 hx).1, fun x hx => h.wf x (mem_drp.1 hx).1, h.nx0, h.nx1⟩
theorem Okc.drops {n nx : Int} {L : List En} (h : Okc n L nx) : ∀ (l : List En), Okc n (drps L l) nx := fun l => by
  induction l generalizing L with
  | nil => exact h
  | cons e l ih => exact ih (h.drop e)
theorem Okc.next {n nx p : Int} {L : List En} (h : Okc n L nx) (h0 : 0 ≤ p) (h1 : p ≤ 4611686018427387904) : Okc n L (p + 1) := ⟨h.n1, h.n64, h.up, h.ins, h.wf, by omega, by omega⟩
theorem Okc.lays {n nx p : Int} {L : List En} (h : Okc n L nx) (hp : 0 ≤ p ∧ p < 18446744073709551616) : ∀ (l : List Im), ImsWf l → (∀ i ∈ l, outI n i = false) → Okc n (lays L l p) nx := fun l => by
  induction l generalizing L with
  | nil => exact fun _ _ => h
  | cons i l ih =>
    intro hw ho
    have hi := hw i List.mem_cons_self
    have hn := ho i List.mem_cons_self
    refine ih (h.lay (e := ⟨i.b, i.v, p⟩) ⟨hi.b, hi.len, hi.byte, hp⟩ (by simpa [outI] using hn)) (fun x hx => hw x (List.mem_cons_of_mem _ hx)) (fun x hx => ho x (List.mem_cons_of_mem _ hx))
end Go.Proofs.YthcpnfelnonhnaaDoor
