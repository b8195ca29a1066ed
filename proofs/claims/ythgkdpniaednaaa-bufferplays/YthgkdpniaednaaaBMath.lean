/-
  Layer 5: plain mathematics: lists of numbers, rising, without doubles.
-/
namespace Go.Proofs.Ythgkdpniaednaaa.B

/-- rising, each above the one ahead of it -/
abbrev Up (l : List Int) : Prop := l.Pairwise (· < ·)

theorem Up.ext : ∀ {l l' : List Int}, Up l → Up l' → (∀ x, x ∈ l ↔ x ∈ l') → l = l'
  | [], [], _, _, _ => rfl
  | [], b :: t, _, _, h => absurd ((h b).2 (List.mem_cons_self)) (by simp)
  | a :: s, [], _, _, h => absurd ((h a).1 (List.mem_cons_self)) (by simp)
  | a :: s, b :: t, h1, h2, h => by
    have h1' := List.pairwise_cons.1 h1
    have h2' := List.pairwise_cons.1 h2
    have hab : a = b := by
      rcases List.mem_cons.1 ((h a).1 List.mem_cons_self) with e | e
      · exact e
      rcases List.mem_cons.1 ((h b).2 List.mem_cons_self) with e2 | e2
      · exact e2.symm
      have := h2'.1 a e
      have := h1'.1 b e2
      omega
    subst hab
    congr 1
    refine Up.ext h1'.2 h2'.2 fun x => ⟨fun hx => ?_, fun hx => ?_⟩
    · rcases List.mem_cons.1 ((h x).1 (List.mem_cons_of_mem _ hx)) with e | e
      · have := h1'.1 x hx; omega
      · exact e
    · rcases List.mem_cons.1 ((h x).2 (List.mem_cons_of_mem _ hx)) with e | e
      · have := h2'.1 x hx; omega
      · exact e

theorem Up.adj {l : List Int} (h : Up l) (i : Nat) (hi : i + 1 < l.length) : l.getD i 0 < l.getD (i + 1) 0 := by
  have := (List.pairwise_iff_getElem.1 h) i (i + 1) (by omega) hi (by omega)
  simpa [List.getD, List.getElem?_eq_getElem hi, List.getElem?_eq_getElem (show i < l.length by omega)] using this

def ins (x : Int) : List Int → List Int
  | [] => [x]
  | y :: l => if x < y then x :: y :: l else if x = y then y :: l else y :: ins x l

theorem mem_ins (x z : Int) : ∀ l : List Int, z ∈ ins x l ↔ z = x ∨ z ∈ l
  | [] => by simp [ins]
  | y :: l => by
    unfold ins
    split
    · simp
    · split
      · rename_i h; subst h; simp
      · have := mem_ins x z l
        simp only [List.mem_cons, this]
        constructor
        · rintro (h | h | h) <;> simp [h]
        · rintro (h | h | h) <;> simp [h]

theorem up_ins (x : Int) : ∀ l : List Int, Up l → Up (ins x l)
  | [], _ => by simp [ins]
  | y :: l, h => by
    have h' := List.pairwise_cons.1 h
    unfold ins
    split
    · rename_i hxy
      refine List.pairwise_cons.2 ⟨fun z hz => ?_, h⟩
      rcases List.mem_cons.1 hz with e | e
      · omega
      · have := h'.1 z e; omega
    · split
      · exact h
      · refine List.pairwise_cons.2 ⟨fun z hz => ?_, up_ins x l h'.2⟩
        rcases (mem_ins x z l).1 hz with e | e
        · omega
        · exact h'.1 z e

theorem ins_length (x : Int) : ∀ l : List Int, (ins x l).length ≤ l.length + 1
  | [] => by simp [ins]
  | y :: l => by
    have := ins_length x l
    unfold ins
    split
    · simp
    · split
      · simp
      · simp; omega

/-- the different numbers of a list, rising -/
def diffS (xs : List Int) : List Int := xs.foldr ins []

theorem mem_diffS (z : Int) : ∀ xs : List Int, z ∈ diffS xs ↔ z ∈ xs
  | [] => by simp [diffS]
  | x :: xs => by
    have := mem_diffS z xs
    unfold diffS at *
    rw [List.foldr_cons, mem_ins, this, List.mem_cons]
theorem up_diffS : ∀ xs : List Int, Up (diffS xs)
  | [] => by simp [diffS]
  | x :: xs => up_ins x _ (up_diffS xs)
theorem diffS_length : ∀ xs : List Int, (diffS xs).length ≤ xs.length
  | [] => by simp [diffS]
  | x :: xs => by
    have h1 := ins_length x (diffS xs)
    have h2 := diffS_length xs
    have e : diffS (x :: xs) = ins x (diffS xs) := rfl
    rw [e]
    simp only [List.length_cons]
    omega
theorem diffS_eq {l xs : List Int} (hu : Up l) (hm : ∀ x, x ∈ l ↔ x ∈ xs) : l = diffS xs := Up.ext hu (up_diffS xs) fun x => (hm x).trans (mem_diffS x xs).symm
theorem diffS_congr {xs ys : List Int} (h : ∀ x, x ∈ xs ↔ x ∈ ys) : diffS xs = diffS ys := diffS_eq (up_diffS xs) fun x => (mem_diffS x xs).trans (h x)
theorem diffS_up {l : List Int} (h : Up l) : diffS l = l := (diffS_eq h fun _ => Iff.rfl).symm
theorem diffS_nil {xs : List Int} (h : diffS xs = []) : xs = [] := by
  cases xs with
  | nil => rfl
  | cons x xs => have := (mem_diffS x (x :: xs)).2 List.mem_cons_self; rw [h] at this; cases this

/-- what stands in both, rising, each once -/
def bothS (a b : List Int) : List Int := (diffS a).filter fun x => b.contains x

theorem mem_bothS (a b : List Int) (z : Int) : z ∈ bothS a b ↔ z ∈ a ∧ z ∈ b := by
  unfold bothS
  rw [List.mem_filter, mem_diffS]
  simp
theorem up_bothS (a b : List Int) : Up (bothS a b) := (up_diffS a).filter _
theorem bothS_length (a b : List Int) : (bothS a b).length ≤ a.length := Nat.le_trans (List.length_filter_le _ _) (diffS_length a)
theorem bothS_eq {l a b : List Int} (hu : Up l) (hm : ∀ x, x ∈ l ↔ x ∈ a ∧ x ∈ b) : l = bothS a b := Up.ext hu (up_bothS a b) fun x => (hm x).trans (mem_bothS a b x).symm

/-- two rising lists, gone through side by side, so many steps -/
def meetF : Nat → List Int → List Int → List Int
  | 0, _, _ => []
  | _ + 1, [], _ => []
  | _ + 1, _ :: _, [] => []
  | n + 1, a :: s, b :: t => if a < b then meetF n s (b :: t) else if b < a then meetF n (a :: s) t else a :: meetF n s t
def meet (a b : List Int) : List Int := meetF (a.length + b.length) a b

theorem meetF_nil_left (n : Nat) (b : List Int) : meetF n [] b = [] := by cases n <;> rfl
theorem meetF_nil_right (n : Nat) (a : List Int) : meetF n a [] = [] := by cases n <;> cases a <;> rfl
theorem meetF_more : ∀ (n : Nat) (A B : List Int), A.length + B.length ≤ n → meetF (n + 1) A B = meetF n A B
  | _, [], B, _ => by rw [meetF_nil_left, meetF_nil_left]
  | _, a :: s, [], _ => by rw [meetF_nil_right, meetF_nil_right]
  | 0, a :: s, b :: t, h => absurd h (by simp)
  | n + 1, a :: s, b :: t, h => by
    have hl : s.length + t.length + 1 ≤ n := by simp at h; omega
    rw [meetF, meetF]
    rw [meetF_more n s (b :: t) (by simp; omega), meetF_more n (a :: s) t (by simp; omega), meetF_more n s t (by omega)]
theorem meet_nil_left (b : List Int) : meet [] b = [] := meetF_nil_left _ b
theorem meet_nil_right (a : List Int) : meet a [] = [] := meetF_nil_right _ a
theorem meet_lt {a b : Int} (s t : List Int) (h : a < b) : meet (a :: s) (b :: t) = meet s (b :: t) := by
  unfold meet
  rw [show (a :: s).length + (b :: t).length = (s.length + (b :: t).length) + 1 by simp; omega, meetF, if_pos h]
theorem meet_gt {a b : Int} (s t : List Int) (h : b < a) : meet (a :: s) (b :: t) = meet (a :: s) t := by
  unfold meet
  rw [show (a :: s).length + (b :: t).length = ((a :: s).length + t.length) + 1 by simp; omega, meetF, if_neg (by omega), if_pos h]
theorem meet_eq (a : Int) (s t : List Int) : meet (a :: s) (a :: t) = a :: meet s t := by
  unfold meet
  rw [show (a :: s).length + (a :: t).length = (s.length + t.length + 1) + 1 by simp; omega, meetF, if_neg (by omega), if_neg (by omega), meetF_more _ _ _ (Nat.le_refl _)]

theorem mem_meet : ∀ (n : Nat) (A B : List Int), A.length + B.length ≤ n → Up A → Up B → ∀ x, x ∈ meet A B ↔ x ∈ A ∧ x ∈ B
  | _, [], B, _, _, _, x => by rw [meet_nil_left]; simp
  | _, a :: s, [], _, _, _, x => by rw [meet_nil_right]; simp
  | 0, a :: s, b :: t, h, _, _, _ => absurd h (by simp)
  | n + 1, a :: s, b :: t, h, hA, hB, x => by
    have hA' := List.pairwise_cons.1 hA
    have hB' := List.pairwise_cons.1 hB
    have hl : s.length + (t.length + 1) ≤ n := by simp at h; omega
    rcases Int.lt_trichotomy a b with c | c | c
    · rw [meet_lt s t c, mem_meet n s (b :: t) (by simpa using hl) hA'.2 hB x]
      constructor
      · rintro ⟨h1, h2⟩; exact ⟨List.mem_cons_of_mem _ h1, h2⟩
      · rintro ⟨h1, h2⟩
        refine ⟨?_, h2⟩
        rcases List.mem_cons.1 h1 with e | e
        · subst e
          rcases List.mem_cons.1 h2 with e | e
          · omega
          · have := hB'.1 _ e; omega
        · exact e
    · subst c
      rw [meet_eq, List.mem_cons, mem_meet n s t (by omega) hA'.2 hB'.2 x]
      constructor
      · rintro (e | ⟨h1, h2⟩)
        · subst e; exact ⟨List.mem_cons_self, List.mem_cons_self⟩
        · exact ⟨List.mem_cons_of_mem _ h1, List.mem_cons_of_mem _ h2⟩
      · rintro ⟨h1, h2⟩
        rcases List.mem_cons.1 h1 with e | e
        · exact .inl e
        · rcases List.mem_cons.1 h2 with e2 | e2
          · exact .inl e2
          · exact .inr ⟨e, e2⟩
    · rw [meet_gt s t c, mem_meet n (a :: s) t (by simp; omega) hA hB'.2 x]
      constructor
      · rintro ⟨h1, h2⟩; exact ⟨h1, List.mem_cons_of_mem _ h2⟩
      · rintro ⟨h1, h2⟩
        refine ⟨h1, ?_⟩
        rcases List.mem_cons.1 h2 with e | e
        · subst e
          rcases List.mem_cons.1 h1 with e | e
          · omega
          · have := hA'.1 _ e; omega
        · exact e

theorem meet_sub : ∀ (n : Nat) (A B : List Int), A.length + B.length ≤ n → (meet A B).Sublist A
  | _, [], B, _ => by rw [meet_nil_left]; exact List.Sublist.refl _
  | _, a :: s, [], _ => by rw [meet_nil_right]; exact List.nil_sublist _
  | 0, a :: s, b :: t, h => absurd h (by simp)
  | n + 1, a :: s, b :: t, h => by
    have hl : s.length + (t.length + 1) ≤ n := by simp at h; omega
    rcases Int.lt_trichotomy a b with c | c | c
    · rw [meet_lt s t c]; exact (meet_sub n s (b :: t) (by simpa using hl)).cons _
    · subst c; rw [meet_eq]; exact (meet_sub n s t (by omega)).cons_cons _
    · rw [meet_gt s t c]; exact meet_sub n (a :: s) t (by simp; omega)

theorem meet_diff (a b : List Int) : meet (diffS a) (diffS b) = bothS a b :=
  bothS_eq ((up_diffS a).sublist (meet_sub _ _ _ (Nat.le_refl _))) fun x => by rw [mem_meet _ _ _ (Nat.le_refl _) (up_diffS a) (up_diffS b) x, mem_diffS, mem_diffS]

/-- all are blocks of a store that has so many -/
def belS (xs : List Int) (b : Int) : Bool := decide (∀ x ∈ xs, 0 ≤ x ∧ x < b)
def mayS (b m : Int) : Bool := decide (1 ≤ b ∧ b ≤ 64 ∧ 1 ≤ m ∧ m ≤ 16 ∧ m ≤ b)
/-- Form -/
def formS (xs : List Int) (b m : Int) : List Int × Int :=
  if mayS b m = false then ([], 2) else if xs = [] then ([], 50) else if belS xs b = false then ([], 51) else if m < ((diffS xs).length : Int) then ([], 52) else (diffS xs, 0)
/-- Is -/
def isS (l : List Int) : Bool := decide (1 ≤ l.length ∧ l.length ≤ 16 ∧ (∀ x ∈ l, 0 ≤ x ∧ x < 64) ∧ ∀ i, i < l.length - 1 → l.getD i 0 < l.getD (i + 1) 0)
/-- Next -/
def nextS (l : List Int) (n : Int) : Int × Bool := if 0 ≤ n ∧ n < (l.length : Int) then (l.getD n.toNat 0, true) else (0, false)

theorem belS_congr {xs ys : List Int} (b : Int) (h : ∀ x, x ∈ xs ↔ x ∈ ys) : belS xs b = belS ys b := by
  unfold belS
  congr 1
  exact propext ⟨fun k x hx => k x ((h x).2 hx), fun k x hx => k x ((h x).1 hx)⟩

theorem formS_congr {xs ys : List Int} (b m : Int) (h : ∀ x, x ∈ xs ↔ x ∈ ys) : formS xs b m = formS ys b m := by
  have e0 : (xs = []) = (ys = []) := by
    apply propext
    constructor
    · rintro rfl
      exact List.eq_nil_iff_forall_not_mem.2 fun x hx => by have := (h x).2 hx; cases this
    · rintro rfl
      exact List.eq_nil_iff_forall_not_mem.2 fun x hx => by have := (h x).1 hx; cases this
  unfold formS
  simp only [e0, belS_congr b h, diffS_congr h]

theorem formS_len (xs : List Int) (b m : Int) : (formS xs b m).1.length ≤ 16 := by
  unfold formS
  split
  · simp
  split
  · simp
  split
  · simp
  split
  · simp
  · rename_i h _ _ h2
    have : mayS b m = true := by simpa using h
    simp only [mayS, decide_eq_true_eq] at this
    simp only
    omega

theorem formS_ok {xs : List Int} {b m : Int} (h : (formS xs b m).2 = 0) : (formS xs b m).1 = diffS xs ∧ mayS b m = true ∧ xs ≠ [] ∧ belS xs b = true ∧ ((diffS xs).length : Int) ≤ m := by
  unfold formS at h ⊢
  split at h
  · simp at h
  split at h
  · simp at h
  split at h
  · simp at h
  split at h
  · simp at h
  · rename_i h1 h2 h3 h4
    rw [if_neg h1, if_neg h2, if_neg h3, if_neg h4]
    exact ⟨rfl, by simpa using h1, h2, by simpa using h3, by omega⟩

theorem formS_errs (xs : List Int) (b m : Int) : ((formS xs b m).2 = 0 ∨ (formS xs b m).2 = 2 ∨ (formS xs b m).2 = 50 ∨ (formS xs b m).2 = 51 ∨ (formS xs b m).2 = 52) ∧ ((formS xs b m).2 ≠ 0 → (formS xs b m).1 = []) := by
  unfold formS
  split
  · simp
  split
  · simp
  split
  · simp
  split
  · simp
  · simp

theorem formS_form (xs : List Int) (b m : Int) : formS (diffS xs) b m = formS xs b m := formS_congr b m fun x => mem_diffS x xs

theorem isS_form {xs : List Int} {b m : Int} (h : (formS xs b m).2 = 0) : isS (diffS xs) = true := by
  obtain ⟨_, h1, h2, h3, h4⟩ := formS_ok h
  simp only [mayS, decide_eq_true_eq] at h1
  simp only [belS, decide_eq_true_eq] at h3
  unfold isS
  rw [decide_eq_true_eq]
  refine ⟨?_, by omega, fun x hx => ?_, fun i hi => (up_diffS xs).adj i (by omega)⟩
  · rcases Nat.eq_zero_or_pos (diffS xs).length with e | e
    · exact absurd (diffS_nil (List.eq_nil_of_length_eq_zero e)) h2
    · exact e
  · have := h3 x ((mem_diffS x xs).1 hx)
    omega

/-- k numbers from the front, changed with those from the back -/
def swp (l : List Int) : Nat → List Int
  | 0 => l
  | k + 1 => ((swp l k).set k ((swp l k).getD (l.length - 1 - k) 0)).set (l.length - 1 - k) ((swp l k).getD k 0)
theorem swp_length (l : List Int) : ∀ k, (swp l k).length = l.length
  | 0 => rfl
  | k + 1 => by simp [swp, swp_length l k]
theorem mem_getD_of {l : List Int} {j : Nat} (hj : j < l.length) : l.getD j 0 ∈ l := by
  rw [List.getD, List.getElem?_eq_getElem hj]
  exact List.getElem_mem hj
theorem swp_mem (l : List Int) (x : Int) : ∀ k, k ≤ l.length → x ∈ swp l k → x ∈ l
  | 0, _, h => h
  | k + 1, hk, h => by
    have hl := swp_length l k
    unfold swp at h
    refine swp_mem l x k (by omega) ?_
    rcases List.mem_or_eq_of_mem_set h with h | rfl
    · rcases List.mem_or_eq_of_mem_set h with h | rfl
      · exact h
      · exact mem_getD_of (by omega)
    · exact mem_getD_of (by omega)

/-- a list written over where it stands, as the laws do -/
def turnS (l : List Int) : List Int := (swp l (l.length / 2)).set 0 ((swp l (l.length / 2)).getD (l.length - 1) 0)
theorem turnS_length (l : List Int) : (turnS l).length = l.length := by simp [turnS, swp_length]
theorem turnS_mem {l : List Int} {x : Int} (h : x ∈ turnS l) : x ∈ l := by
  have hl := swp_length l (l.length / 2)
  by_cases h0 : l.length = 0
  · obtain rfl := List.eq_nil_of_length_eq_zero h0
    have := turnS_length ([] : List Int)
    rw [List.eq_nil_of_length_eq_zero this] at h
    exact h
  refine swp_mem l x (l.length / 2) (by omega) ?_
  unfold turnS at h
  rcases List.mem_or_eq_of_mem_set h with h | rfl
  · exact h
  · exact mem_getD_of (by omega)

end Go.Proofs.Ythgkdpniaednaaa.B
