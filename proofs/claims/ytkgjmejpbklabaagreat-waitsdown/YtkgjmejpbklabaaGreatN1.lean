/-
  Layer 11, plain mathematics: a queue is the list of its tickets, and the greatest that ever came. Layer 5: plain mathematics: lists of numbers, rising, without doubles. Layer 12: ledgers, as plain mathematics.
-/
namespace Go.Proofs.YtkgjmejpbklabaaGreat

/-- the tickets rise, and none is above the greatest that came -/
structure Up (xs : List Int) (m : Int) : Prop where
  rise : xs.Pairwise (· < ·)
  top : ∀ x ∈ xs, x ≤ m
  pos : 0 ≤ m
theorem Up.nil : Up [] 0 := ⟨List.Pairwise.nil, by simp, by omega⟩
theorem Up.put {xs : List Int} {m t : Int} (h : Up xs m) (ht : m < t) : Up (xs ++ [t]) t := by
  refine ⟨?_, ?_, by have := h.pos; omega⟩
  · rw [List.pairwise_append]
    refine ⟨h.rise, List.pairwise_singleton _ _, ?_⟩
    intro a ha b hb
    simp at hb
    subst hb
    have := h.top a ha
    omega
  · intro x hx
    simp at hx
    rcases hx with hx | rfl
    · have := h.top x hx; omega
    · omega
theorem Up.sub {xs ys : List Int} {m : Int} (h : Up xs m) (hs : ys.Sublist xs) : Up ys m :=
  ⟨h.rise.sublist hs, fun x hx => h.top x (hs.subset hx), h.pos⟩
theorem nd_of : ∀ {xs : List Int}, xs.Pairwise (· < ·) → xs.Nodup
  | [], _ => List.nodup_nil
  | x :: xs, h => List.nodup_cons.2 ⟨fun hm => by have := (List.pairwise_cons.1 h).1 x hm; omega, nd_of (List.pairwise_cons.1 h).2⟩
theorem or_id {a b c : Prop} (h : a ∨ b) (f : b → c) : a ∨ c := by
  rcases h with h | h
  · exact .inl h
  · exact .inr (f h)
theorem Up.nodup {xs : List Int} {m : Int} (h : Up xs m) : xs.Nodup := nd_of h.rise
theorem Up.erase {xs : List Int} {m : Int} (h : Up xs m) (t : Int) : Up (xs.erase t) m := h.sub List.erase_sublist
theorem Up.tail {xs : List Int} {x m : Int} (h : Up (x :: xs) m) : Up xs m := h.sub (List.sublist_cons_self _ _)
theorem Up.filter {xs : List Int} {m : Int} (h : Up xs m) (t : Int) : xs.filter (· != t) = xs.erase t := (h.nodup.erase_eq_filter t).symm

/-- where a ticket stands -/
def place (xs : List Int) (t : Int) : Int := if t ∈ xs then (xs.idxOf t : Int) else -1
theorem place_in {xs : List Int} {t : Int} (h : t ∈ xs) : place xs t = (xs.idxOf t : Int) := if_pos h
theorem place_out {xs : List Int} {t : Int} (h : t ∉ xs) : place xs t = -1 := if_neg h
theorem erase_idx (xs : List Int) (t : Int) : xs.eraseIdx (xs.idxOf t) = xs.erase t := (List.erase_eq_eraseIdx_of_idxOf rfl).symm
theorem place_at {xs : List Int} {m : Int} (h : Up xs m) {k : Nat} (hk : k < xs.length) : place xs xs[k] = k := by
  rw [place_in (List.getElem_mem hk), h.nodup.idxOf_getElem k hk]
theorem idxOf_pre (pre : List Int) (t : Int) (zs : List Int) (hn : t ∉ pre) (hp : pre ++ [t] <+: zs) : t ∈ zs ∧ zs.idxOf t = pre.length := by
  obtain ⟨r, rfl⟩ := hp
  refine ⟨by simp, ?_⟩
  rw [List.append_assoc, List.idxOf_append, if_neg hn]
  simp
theorem rise_get {xs : List Int} {m : Int} (h : Up xs m) {k : Nat} (h1 : 1 ≤ k) (hk : k < xs.length) : xs.getD (k - 1) 0 < xs.getD k 0 := by
  have := (List.pairwise_iff_getElem.1 h.rise) (k - 1) k (by omega) hk (by omega)
  simpa [List.getD, List.getElem?_eq_getElem hk, List.getElem?_eq_getElem (show k - 1 < xs.length by omega)] using this

/-- what has come when k rounds are over -/
def upto (zs : List Int) (k : Nat) : List Int := (List.range k).map fun j => zs.getD j 0
theorem upto_succ (zs : List Int) (k : Nat) : upto zs (k + 1) = upto zs k ++ [zs.getD k 0] := by simp [upto, List.range_succ]
theorem upto_length (zs : List Int) (k : Nat) : (upto zs k).length = k := by simp [upto]
theorem upto_take (zs : List Int) (k : Nat) (hk : k ≤ zs.length) : upto zs k = zs.take k := by
  apply List.ext_getElem
  · simp [upto]; omega
  · intro i h1 h2
    have h3 : i < zs.length := by simp at h2; omega
    simp [upto, List.getD, h3]
theorem upto_all (zs : List Int) : upto zs zs.length = zs := by rw [upto_take zs _ (Nat.le_refl _), List.take_length]

/-- a list whose piece from 1 to k+1 was laid over by the piece from 0 to k, and cut behind its first -/
theorem leave_at (xs : List Int) (k i : Nat) : (xs.eraseIdx k).getD i 0 = if i < k then xs.getD i 0 else xs.getD (i + 1) 0 := by
  simp only [List.getD, List.getElem?_eraseIdx]
  split <;> rfl

end Go.Proofs.YtkgjmejpbklabaaGreat
namespace Go.Proofs.YtkgjmejpbklabaaGreat.B

/-- rising, each above the one ahead of it -/
abbrev Up (l : List Int) : Prop := l.Pairwise (· < ·)

theorem Up.ext : ∀ {l l' : List Int}, Up l → Up l' → (∀ x, x ∈ l ↔ x ∈ l') → l = l'
  | [], [], _, _, _ => rfl
  | [], b :: t, _, _, h => absurd ((h b).2 (List.mem_cons_self)) (by simp)
  | a :: s, [], _, _, h => absurd ((h a).1 (List.mem_cons_self)) (by simp)
  | a :: s, b :: t, h1, h2, h => by
    have h1' := List.pairwise_cons.1 h1
    have h2' := List.pairwise_cons.1 h2
    have hab : a = b := by
      rcases List.mem_cons.1 ((h a).1 List.mem_cons_self) with e | e
      · exact e
      rcases List.mem_cons.1 ((h b).2 List.mem_cons_self) with e2 | e2
      · exact e2.symm
      have := h2'.1 a e
      have := h1'.1 b e2
      omega
    subst hab
    congr 1
    refine Up.ext h1'.2 h2'.2 fun x => ⟨fun hx => ?_, fun hx => ?_⟩
    · rcases List.mem_cons.1 ((h x).1 (List.mem_cons_of_mem _ hx)) with e | e
      · have := h1'.1 x hx; omega
      · exact e
    · rcases List.mem_cons.1 ((h x).2 (List.mem_cons_of_mem _ hx)) with e | e
      · have := h2'.1 x hx; omega
      · exact e

theorem Up.adj {l : List Int} (h : Up l) (i : Nat) (hi : i + 1 < l.length) : l.getD i 0 < l.getD (i + 1) 0 := by
  have := (List.pairwise_iff_getElem.1 h) i (i + 1) (by omega) hi (by omega)
  simpa [List.getD, List.getElem?_eq_getElem hi, List.getElem?_eq_getElem (show i < l.length by omega)] using this

def ins (x : Int) : List Int → List Int
  | [] => [x]
  | y :: l => if x < y then x :: y :: l else if x = y then y :: l else y :: ins x l

theorem mem_ins (x z : Int) : ∀ l : List Int, z ∈ ins x l ↔ z = x ∨ z ∈ l
  | [] => by simp [ins]
  | y :: l => by
    unfold ins
    split
    · simp
    · split
      · rename_i h; subst h; simp
      · have := mem_ins x z l
        simp only [List.mem_cons, this]
        constructor
        · rintro (h | h | h) <;> simp [h]
        · rintro (h | h | h) <;> simp [h]

theorem up_ins (x : Int) : ∀ l : List Int, Up l → Up (ins x l)
  | [], _ => by simp [ins]
  | y :: l, h => by
    have h' := List.pairwise_cons.1 h
    unfold ins
    split
    · rename_i hxy
      refine List.pairwise_cons.2 ⟨fun z hz => ?_, h⟩
      rcases List.mem_cons.1 hz with e | e
      · omega
      · have := h'.1 z e; omega
    · split
      · exact h
      · refine List.pairwise_cons.2 ⟨fun z hz => ?_, up_ins x l h'.2⟩
        rcases (mem_ins x z l).1 hz with e | e
        · omega
        · exact h'.1 z e

theorem ins_length (x : Int) : ∀ l : List Int, (ins x l).length ≤ l.length + 1
  | [] => by simp [ins]
  | y :: l => by
    have := ins_length x l
    unfold ins
    split
    · simp
    · split
      · simp
      · simp; omega

/-- the different numbers of a list, rising -/
def diffS (xs : List Int) : List Int := xs.foldr ins []

theorem mem_diffS (z : Int) : ∀ xs : List Int, z ∈ diffS xs ↔ z ∈ xs
  | [] => by simp [diffS]
  | x :: xs => by
    have := mem_diffS z xs
    unfold diffS at *
    rw [List.foldr_cons, mem_ins, this, List.mem_cons]
theorem up_diffS : ∀ xs : List Int, Up (diffS xs)
  | [] => by simp [diffS]
  | x :: xs => up_ins x _ (up_diffS xs)
theorem diffS_length : ∀ xs : List Int, (diffS xs).length ≤ xs.length
  | [] => by simp [diffS]
  | x :: xs => by
    have h1 := ins_length x (diffS xs)
    have h2 := diffS_length xs
    have e : diffS (x :: xs) = ins x (diffS xs) := rfl
    rw [e]
    simp only [List.length_cons]
    omega
theorem diffS_eq {l xs : List Int} (hu : Up l) (hm : ∀ x, x ∈ l ↔ x ∈ xs) : l = diffS xs := Up.ext hu (up_diffS xs) fun x => (hm x).trans (mem_diffS x xs).symm
theorem diffS_congr {xs ys : List Int} (h : ∀ x, x ∈ xs ↔ x ∈ ys) : diffS xs = diffS ys := diffS_eq (up_diffS xs) fun x => (mem_diffS x xs).trans (h x)
theorem diffS_up {l : List Int} (h : Up l) : diffS l = l := (diffS_eq h fun _ => Iff.rfl).symm
theorem diffS_nil {xs : List Int} (h : diffS xs = []) : xs = [] := by
  cases xs with
  | nil => rfl
  | cons x xs => have := (mem_diffS x (x :: xs)).2 List.mem_cons_self; rw [h] at this; cases this

/-- what stands in both, rising, each once -/
def bothS (a b : List Int) : List Int := (diffS a).filter fun x => b.contains x

theorem mem_bothS (a b : List Int) (z : Int) : z ∈ bothS a b ↔ z ∈ a ∧ z ∈ b := by
  unfold bothS
  rw [List.mem_filter, mem_diffS]
  simp
theorem up_bothS (a b : List Int) : Up (bothS a b) := (up_diffS a).filter _
theorem bothS_length (a b : List Int) : (bothS a b).length ≤ a.length := Nat.le_trans (List.length_filter_le _ _) (diffS_length a)
theorem bothS_eq {l a b : List Int} (hu : Up l) (hm : ∀ x, x ∈ l ↔ x ∈ a ∧ x ∈ b) : l = bothS a b := Up.ext hu (up_bothS a b) fun x => (hm x).trans (mem_bothS a b x).symm

/-- two rising lists, gone through side by side, so many steps -/
def meetF : Nat → List Int → List Int → List Int
  | 0, _, _ => []
  | _ + 1, [], _ => []
  | _ + 1, _ :: _, [] => []
  | n + 1, a :: s, b :: t => if a < b then meetF n s (b :: t) else if b < a then meetF n (a :: s) t else a :: meetF n s t
def meet (a b : List Int) : List Int := meetF (a.length + b.length) a b

theorem meetF_nil_left (n : Nat) (b : List Int) : meetF n [] b = [] := by cases n <;> rfl
theorem meetF_nil_right (n : Nat) (a : List Int) : meetF n a [] = [] := by cases n <;> cases a <;> rfl
theorem meetF_more : ∀ (n : Nat) (A B : List Int), A.length + B.length ≤ n → meetF (n + 1) A B = meetF n A B
  | _, [], B, _ => by rw [meetF_nil_left, meetF_nil_left]
  | _, a :: s, [], _ => by rw [meetF_nil_right, meetF_nil_right]
  | 0, a :: s, b :: t, h => absurd h (by simp)
  | n + 1, a :: s, b :: t, h => by
    have hl : s.length + t.length + 1 ≤ n := by simp at h; omega
    rw [meetF, meetF]
    rw [meetF_more n s (b :: t) (by simp; omega), meetF_more n (a :: s) t (by simp; omega), meetF_more n s t (by omega)]
theorem meet_nil_left (b : List Int) : meet [] b = [] := meetF_nil_left _ b
theorem meet_nil_right (a : List Int) : meet a [] = [] := meetF_nil_right _ a
theorem meet_lt {a b : Int} (s t : List Int) (h : a < b) : meet (a :: s) (b :: t) = meet s (b :: t) := by
  unfold meet
  rw [show (a :: s).length + (b :: t).length = (s.length + (b :: t).length) + 1 by simp; omega, meetF, if_pos h]
theorem meet_gt {a b : Int} (s t : List Int) (h : b < a) : meet (a :: s) (b :: t) = meet (a :: s) t := by
  unfold meet
  rw [show (a :: s).length + (b :: t).length = ((a :: s).length + t.length) + 1 by simp; omega, meetF, if_neg (by omega), if_pos h]
theorem meet_eq (a : Int) (s t : List Int) : meet (a :: s) (a :: t) = a :: meet s t := by
  unfold meet
  rw [show (a :: s).length + (a :: t).length = (s.length + t.length + 1) + 1 by simp; omega, meetF, if_neg (by omega), if_neg (by omega), meetF_more _ _ _ (Nat.le_refl _)]

theorem mem_meet : ∀ (n : Nat) (A B : List Int), A.length + B.length ≤ n → Up A → Up B → ∀ x, x ∈ meet A B ↔ x ∈ A ∧ x ∈ B
  | _, [], B, _, _, _, x => by rw [meet_nil_left]; simp
  | _, a :: s, [], _, _, _, x => by rw [meet_nil_right]; simp
  | 0, a :: s, b :: t, h, _, _, _ => absurd h (by simp)
  | n + 1, a :: s, b :: t, h, hA, hB, x => by
    have hA' := List.pairwise_cons.1 hA
    have hB' := List.pairwise_cons.1 hB
    have hl : s.length + (t.length + 1) ≤ n := by simp at h; omega
    rcases Int.lt_trichotomy a b with c | c | c
    · rw [meet_lt s t c, mem_meet n s (b :: t) (by simpa using hl) hA'.2 hB x]
      constructor
      · rintro ⟨h1, h2⟩; exact ⟨List.mem_cons_of_mem _ h1, h2⟩
      · rintro ⟨h1, h2⟩
        refine ⟨?_, h2⟩
        rcases List.mem_cons.1 h1 with e | e
        · subst e
          rcases List.mem_cons.1 h2 with e | e
          · omega
          · have := hB'.1 _ e; omega
        · exact e
    · subst c
      rw [meet_eq, List.mem_cons, mem_meet n s t (by omega) hA'.2 hB'.2 x]
      constructor
      · rintro (e | ⟨h1, h2⟩)
        · subst e; exact ⟨List.mem_cons_self, List.mem_cons_self⟩
        · exact ⟨List.mem_cons_of_mem _ h1, List.mem_cons_of_mem _ h2⟩
      · rintro ⟨h1, h2⟩
        rcases List.mem_cons.1 h1 with e | e
        · exact .inl e
        · rcases List.mem_cons.1 h2 with e2 | e2
          · exact .inl e2
          · exact .inr ⟨e, e2⟩
    · rw [meet_gt s t c, mem_meet n (a :: s) t (by simp; omega) hA hB'.2 x]
      constructor
      · rintro ⟨h1, h2⟩; exact ⟨h1, List.mem_cons_of_mem _ h2⟩
      · rintro ⟨h1, h2⟩
        refine ⟨h1, ?_⟩
        rcases List.mem_cons.1 h2 with e | e
        · subst e
          rcases List.mem_cons.1 h1 with e | e
          · omega
          · have := hA'.1 _ e; omega
        · exact e

theorem meet_sub : ∀ (n : Nat) (A B : List Int), A.length + B.length ≤ n → (meet A B).Sublist A
  | _, [], B, _ => by rw [meet_nil_left]; exact List.Sublist.refl _
  | _, a :: s, [], _ => by rw [meet_nil_right]; exact List.nil_sublist _
  | 0, a :: s, b :: t, h => absurd h (by simp)
  | n + 1, a :: s, b :: t, h => by
    have hl : s.length + (t.length + 1) ≤ n := by simp at h; omega
    rcases Int.lt_trichotomy a b with c | c | c
    · rw [meet_lt s t c]; exact (meet_sub n s (b :: t) (by simpa using hl)).cons _
    · subst c; rw [meet_eq]; exact (meet_sub n s t (by omega)).cons_cons _
    · rw [meet_gt s t c]; exact meet_sub n (a :: s) t (by simp; omega)

theorem meet_diff (a b : List Int) : meet (diffS a) (diffS b) = bothS a b :=
  bothS_eq ((up_diffS a).sublist (meet_sub _ _ _ (Nat.le_refl _))) fun x => by rw [mem_meet _ _ _ (Nat.le_refl _) (up_diffS a) (up_diffS b) x, mem_diffS, mem_diffS]

/-- all are blocks of a store that has so many -/
def belS (xs : List Int) (b : Int) : Bool := decide (∀ x ∈ xs, 0 ≤ x ∧ x < b)
def mayS (b m : Int) : Bool := decide (1 ≤ b ∧ b ≤ 64 ∧ 1 ≤ m ∧ m ≤ 16 ∧ m ≤ b)
/-- Form -/
def formS (xs : List Int) (b m : Int) : List Int × Int :=
  if mayS b m = false then ([], 2) else if xs = [] then ([], 50) else if belS xs b = false then ([], 51) else if m < ((diffS xs).length : Int) then ([], 52) else (diffS xs, 0)
/-- Is -/
def isS (l : List Int) : Bool := decide (1 ≤ l.length ∧ l.length ≤ 16 ∧ (∀ x ∈ l, 0 ≤ x ∧ x < 64) ∧ ∀ i, i < l.length - 1 → l.getD i 0 < l.getD (i + 1) 0)
/-- Next -/
def nextS (l : List Int) (n : Int) : Int × Bool := if 0 ≤ n ∧ n < (l.length : Int) then (l.getD n.toNat 0, true) else (0, false)

theorem belS_congr {xs ys : List Int} (b : Int) (h : ∀ x, x ∈ xs ↔ x ∈ ys) : belS xs b = belS ys b := by
  unfold belS
  congr 1
  exact propext ⟨fun k x hx => k x ((h x).2 hx), fun k x hx => k x ((h x).1 hx)⟩

theorem formS_congr {xs ys : List Int} (b m : Int) (h : ∀ x, x ∈ xs ↔ x ∈ ys) : formS xs b m = formS ys b m := by
  have e0 : (xs = []) = (ys = []) := by
    apply propext
    constructor
    · rintro rfl
      exact List.eq_nil_iff_forall_not_mem.2 fun x hx => by have := (h x).2 hx; cases this
    · rintro rfl
      exact List.eq_nil_iff_forall_not_mem.2 fun x hx => by have := (h x).1 hx; cases this
  unfold formS
  simp only [e0, belS_congr b h, diffS_congr h]

theorem formS_len (xs : List Int) (b m : Int) : (formS xs b m).1.length ≤ 16 := by
  unfold formS
  split
  · simp
  split
  · simp
  split
  · simp
  split
  · simp
  · rename_i h _ _ h2
    have : mayS b m = true := by simpa using h
    simp only [mayS, decide_eq_true_eq] at this
    simp only
    omega

theorem formS_ok {xs : List Int} {b m : Int} (h : (formS xs b m).2 = 0) : (formS xs b m).1 = diffS xs ∧ mayS b m = true ∧ xs ≠ [] ∧ belS xs b = true ∧ ((diffS xs).length : Int) ≤ m := by
  unfold formS at h ⊢
  split at h
  · simp at h
  split at h
  · simp at h
  split at h
  · simp at h
  split at h
  · simp at h
  · rename_i h1 h2 h3 h4
    rw [if_neg h1, if_neg h2, if_neg h3, if_neg h4]
    exact ⟨rfl, by simpa using h1, h2, by simpa using h3, by omega⟩

theorem formS_errs (xs : List Int) (b m : Int) : ((formS xs b m).2 = 0 ∨ (formS xs b m).2 = 2 ∨ (formS xs b m).2 = 50 ∨ (formS xs b m).2 = 51 ∨ (formS xs b m).2 = 52) ∧ ((formS xs b m).2 ≠ 0 → (formS xs b m).1 = []) := by
  unfold formS
  split
  · simp
  split
  · simp
  split
  · simp
  split
  · simp
  · simp

theorem formS_form (xs : List Int) (b m : Int) : formS (diffS xs) b m = formS xs b m := formS_congr b m fun x => mem_diffS x xs

theorem isS_form {xs : List Int} {b m : Int} (h : (formS xs b m).2 = 0) : isS (diffS xs) = true := by
  obtain ⟨_, h1, h2, h3, h4⟩ := formS_ok h
  simp only [mayS, decide_eq_true_eq] at h1
  simp only [belS, decide_eq_true_eq] at h3
  unfold isS
  rw [decide_eq_true_eq]
  refine ⟨?_, by omega, fun x hx => ?_, fun i hi => (up_diffS xs).adj i (by omega)⟩
  · rcases Nat.eq_zero_or_pos (diffS xs).length with e | e
    · exact absurd (diffS_nil (List.eq_nil_of_length_eq_zero e)) h2
    · exact e
  · have := h3 x ((mem_diffS x xs).1 hx)
    omega

/-- k numbers from the front, changed with those from the back -/
def swp (l : List Int) : Nat → List Int
  | 0 => l
  | k + 1 => ((swp l k).set k ((swp l k).getD (l.length - 1 - k) 0)).set (l.length - 1 - k) ((swp l k).getD k 0)
theorem swp_length (l : List Int) : ∀ k, (swp l k).length = l.length
  | 0 => rfl
  | k + 1 => by simp [swp, swp_length l k]
theorem mem_getD_of {l : List Int} {j : Nat} (hj : j < l.length) : l.getD j 0 ∈ l := by
  rw [List.getD, List.getElem?_eq_getElem hj]
  exact List.getElem_mem hj
theorem swp_mem (l : List Int) (x : Int) : ∀ k, k ≤ l.length → x ∈ swp l k → x ∈ l
  | 0, _, h => h
  | k + 1, hk, h => by
    have hl := swp_length l k
    unfold swp at h
    refine swp_mem l x k (by omega) ?_
    rcases List.mem_or_eq_of_mem_set h with h | rfl
    · rcases List.mem_or_eq_of_mem_set h with h | rfl
      · exact h
      · exact mem_getD_of (by omega)
    · exact mem_getD_of (by omega)

/-- a list written over where it stands, as the laws do -/
def turnS (l : List Int) : List Int := (swp l (l.length / 2)).set 0 ((swp l (l.length / 2)).getD (l.length - 1) 0)
theorem turnS_length (l : List Int) : (turnS l).length = l.length := by simp [turnS, swp_length]
theorem turnS_mem {l : List Int} {x : Int} (h : x ∈ turnS l) : x ∈ l := by
  have hl := swp_length l (l.length / 2)
  by_cases h0 : l.length = 0
  · obtain rfl := List.eq_nil_of_length_eq_zero h0
    have := turnS_length ([] : List Int)
    rw [List.eq_nil_of_length_eq_zero this] at h
    exact h
  refine swp_mem l x (l.length / 2) (by omega) ?_
  unfold turnS at h
  rcases List.mem_or_eq_of_mem_set h with h | rfl
  · exact h
  · exact mem_getD_of (by omega)

end Go.Proofs.YtkgjmejpbklabaaGreat.B
namespace Go.Proofs.YtkgjmejpbklabaaGreat.L

/-- what is left of a ticket -/
def look (t : Int) : List (Int × Int) → Option Int
  | [] => none
  | x :: xs => if x.1 = t then some x.2 else look t xs
/-- where a ticket stands; the length, if nowhere -/
def pos (t : Int) : List (Int × Int) → Nat
  | [] => 0
  | x :: xs => if x.1 = t then 0 else pos t xs + 1
def total : List (Int × Int) → Int
  | [] => 0
  | x :: xs => x.2 + total xs
def cut (t : Int) : List (Int × Int) → List (Int × Int)
  | [] => []
  | x :: xs => if x.1 = t then xs else x :: cut t xs
def set (t v : Int) : List (Int × Int) → List (Int × Int)
  | [] => []
  | x :: xs => if x.1 = t then (t, v) :: xs else x :: set t v xs

/-- a list that may be a ledger's -/
structure Fine (L : List (Int × Int)) : Prop where
  nonneg : ∀ x ∈ L, 0 ≤ x.2
  once : (L.map Prod.fst).Nodup
theorem Fine.nil : Fine [] := ⟨fun _ h => absurd h List.not_mem_nil, List.nodup_nil⟩
theorem Fine.tail {x : Int × Int} {xs : List (Int × Int)} (h : Fine (x :: xs)) : Fine xs := ⟨fun y hy => h.nonneg y (List.mem_cons_of_mem _ hy), (List.nodup_cons.1 h.once).2⟩
theorem look_none {t : Int} : ∀ {L : List (Int × Int)}, look t L = none ↔ t ∉ L.map Prod.fst
  | [] => by simp [look]
  | x :: xs => by
    by_cases e : x.1 = t
    · simp [look, e]
    · simp only [look, if_neg e, List.map_cons, List.mem_cons, not_or]
      rw [look_none (L := xs)]
      exact ⟨fun h => ⟨fun e2 => e e2.symm, h⟩, fun h => h.2⟩
theorem look_app {t u n : Int} : ∀ {L : List (Int × Int)}, look u L = none → look t (L ++ [(u, n)]) = if t = u then some n else look t L
  | [], _ => by
    by_cases e : u = t
    · subst e; simp [look]
    · simp [look, e, Ne.symm e]
  | x :: xs, h => by
    by_cases e : x.1 = u
    · simp [look, e] at h
    · simp only [look, if_neg e] at h
      by_cases e2 : x.1 = t
      · subst e2; simp [look, e]
      · simp only [List.cons_append, look, if_neg e2, look_app h]
theorem look_set {t u v : Int} : ∀ {L : List (Int × Int)} {n : Int}, look u L = some n → look t (set u v L) = if t = u then some v else look t L
  | [], _, h => by simp [look] at h
  | x :: xs, n, h => by
    by_cases e : x.1 = u
    · by_cases e2 : t = u
      · subst e2; simp [set, look, e]
      · subst e
        have : ¬ x.1 = t := fun e3 => e2 e3.symm
        simp [set, look, this, e2]
    · simp only [look, if_neg e] at h
      by_cases e2 : x.1 = t
      · subst e2; simp [set, look, e]
      · simp only [set, look, if_neg e, if_neg e2, look_set h]
theorem look_cut {t u : Int} : ∀ {L : List (Int × Int)}, Fine L → look t (cut u L) = if t = u then none else look t L
  | [], _ => by simp [look, cut]
  | x :: xs, h => by
    by_cases e : x.1 = u
    · by_cases e2 : t = u
      · subst e2
        have h1 : look t xs = none := look_none.2 (by rw [← e]; exact (List.nodup_cons.1 h.once).1)
        simp [cut, e, h1]
      · subst e
        have : ¬ x.1 = t := fun e3 => e2 e3.symm
        simp [cut, look, this, e2]
    · by_cases e2 : x.1 = t
      · subst e2; simp [cut, look, e]
      · simp only [cut, look, if_neg e, if_neg e2, look_cut h.tail]
theorem total_app (n u : Int) : ∀ L : List (Int × Int), total (L ++ [(u, n)]) = total L + n
  | [] => by simp [total]
  | x :: xs => by simp only [List.cons_append, total, total_app n u xs]; omega
theorem total_set {u v : Int} : ∀ {L : List (Int × Int)} {n : Int}, look u L = some n → total (set u v L) = total L - n + v
  | [], _, h => by simp [look] at h
  | x :: xs, n, h => by
    by_cases e : x.1 = u
    · simp only [look, if_pos e, Option.some.injEq] at h
      simp only [set, if_pos e, total]; omega
    · simp only [look, if_neg e] at h
      simp only [set, if_neg e, total, total_set h]; omega
theorem total_cut {u : Int} : ∀ {L : List (Int × Int)} {n : Int}, look u L = some n → total (cut u L) = total L - n
  | [], _, h => by simp [look] at h
  | x :: xs, n, h => by
    by_cases e : x.1 = u
    · simp only [look, if_pos e, Option.some.injEq] at h
      simp only [cut, if_pos e, total]; omega
    · simp only [look, if_neg e] at h
      simp only [cut, if_neg e, total, total_cut h]; omega
theorem total_nonneg : ∀ {L : List (Int × Int)}, Fine L → 0 ≤ total L
  | [], _ => Int.le_refl _
  | x :: xs, h => by
    have := h.nonneg x (List.mem_cons_self ..)
    have := total_nonneg h.tail
    simp only [total]; omega
theorem look_le {t n : Int} : ∀ {L : List (Int × Int)}, Fine L → look t L = some n → 0 ≤ n ∧ n ≤ total L
  | [], _, h => by simp [look] at h
  | x :: xs, h, e => by
    have := h.nonneg x (List.mem_cons_self ..)
    by_cases e2 : x.1 = t
    · simp only [look, if_pos e2, Option.some.injEq] at e
      have := total_nonneg h.tail
      simp only [total]; omega
    · simp only [look, if_neg e2] at e
      have := look_le h.tail e
      simp only [total]; omega
theorem Fine.app {L : List (Int × Int)} (h : Fine L) {u n : Int} (hu : look u L = none) (hn : 0 ≤ n) : Fine (L ++ [(u, n)]) := by
  refine ⟨fun x hx => ?_, ?_⟩
  · rcases List.mem_append.1 hx with hx | hx
    · exact h.nonneg x hx
    · obtain rfl := List.mem_singleton.1 hx; exact hn
  · rw [List.map_append, List.nodup_append]
    refine ⟨h.once, by simp, fun a ha b hb e => ?_⟩
    simp only [List.map_cons, List.map_nil, List.mem_singleton] at hb
    subst hb; subst e
    exact look_none.1 hu ha
theorem cut_sub (u : Int) : ∀ L : List (Int × Int), (cut u L).Sublist L
  | [] => List.Sublist.refl _
  | x :: xs => by
    by_cases e : x.1 = u
    · simp only [cut, if_pos e]; exact List.sublist_cons_self x xs
    · simp only [cut, if_neg e]; exact (cut_sub u xs).cons_cons x
theorem Fine.cut {L : List (Int × Int)} (h : Fine L) (u : Int) : Fine (cut u L) := ⟨fun x hx => h.nonneg x ((cut_sub u L).subset hx), h.once.sublist ((cut_sub u L).map _)⟩
theorem set_fst (u v : Int) : ∀ L : List (Int × Int), (set u v L).map Prod.fst = L.map Prod.fst
  | [] => rfl
  | x :: xs => by
    by_cases e : x.1 = u
    · simp [set, e]
    · simp [set, e, set_fst u v xs]
theorem set_mem {u v : Int} : ∀ {L : List (Int × Int)} {x : Int × Int}, x ∈ set u v L → x = (u, v) ∨ x ∈ L
  | [], x, h => by simp [set] at h
  | y :: ys, x, h => by
    by_cases e : y.1 = u
    · simp only [set, if_pos e, List.mem_cons] at h
      rcases h with h | h
      · exact .inl h
      · exact .inr (List.mem_cons_of_mem _ h)
    · simp only [set, if_neg e, List.mem_cons] at h
      rcases h with h | h
      · exact .inr (h ▸ List.mem_cons_self ..)
      · rcases set_mem h with h | h
        · exact .inl h
        · exact .inr (List.mem_cons_of_mem _ h)
theorem Fine.set {L : List (Int × Int)} (h : Fine L) {u v : Int} (hv : 0 ≤ v) : Fine (set u v L) := by
  refine ⟨fun x hx => ?_, by rw [set_fst]; exact h.once⟩
  rcases set_mem hx with rfl | hx
  · exact hv
  · exact h.nonneg x hx

theorem pos_le (t : Int) : ∀ L : List (Int × Int), pos t L ≤ L.length
  | [] => Nat.le_refl _
  | x :: xs => by
    have := pos_le t xs
    simp only [pos, List.length_cons]
    split <;> omega
theorem look_pos (t : Int) : ∀ L : List (Int × Int), look t L = (L[pos t L]?).map Prod.snd
  | [] => rfl
  | x :: xs => by
    by_cases e : x.1 = t
    · simp [look, pos, e]
    · simp [look, pos, e, look_pos t xs]
theorem pos_fst (t : Int) : ∀ {L : List (Int × Int)} (h : pos t L < L.length), (L[pos t L]).1 = t
  | [], h => by simp [pos] at h
  | x :: xs, h => by
    by_cases e : x.1 = t
    · simp [pos, e]
    · have h2 : pos t xs < xs.length := by simp only [pos, if_neg e, List.length_cons] at h; omega
      have := pos_fst t h2
      simpa [pos, e] using this
theorem pos_some {t n : Int} {L : List (Int × Int)} (h : look t L = some n) : ∃ hp : pos t L < L.length, L[pos t L] = (t, n) := by
  rw [look_pos] at h
  by_cases hp : pos t L < L.length
  · refine ⟨hp, ?_⟩
    rw [List.getElem?_eq_getElem hp] at h
    simp only [Option.map_some, Option.some.injEq] at h
    exact Prod.ext (pos_fst t hp) h
  · rw [List.getElem?_eq_none (by omega)] at h; cases h
theorem pos_none {t : Int} {L : List (Int × Int)} (h : look t L = none) : pos t L = L.length := by
  rw [look_pos] at h
  have := pos_le t L
  by_cases hp : pos t L < L.length
  · rw [List.getElem?_eq_getElem hp] at h; cases h
  · omega
theorem cut_pos (t : Int) : ∀ L : List (Int × Int), cut t L = L.take (pos t L) ++ L.drop (pos t L + 1)
  | [] => rfl
  | x :: xs => by
    by_cases e : x.1 = t
    · simp [cut, pos, e]
    · simp [cut, pos, e, cut_pos t xs]
theorem set_pos (t v : Int) : ∀ L : List (Int × Int), set t v L = L.set (pos t L) (t, v)
  | [] => rfl
  | x :: xs => by
    by_cases e : x.1 = t
    · simp [set, pos, e]
    · simp [set, pos, e, set_pos t v xs]
/-- ahead of a ticket's place no other is it -/
theorem pos_before (t : Int) : ∀ {L : List (Int × Int)} {k : Nat} (hk : k < L.length), k < pos t L → (L[k]).1 ≠ t
  | [], k, hk, _ => by simp at hk
  | x :: xs, k, hk, h => by
    by_cases e : x.1 = t
    · simp [pos, e] at h
    · cases k with
      | zero => simpa using e
      | succ k =>
        simp only [pos, if_neg e] at h
        have := pos_before t (L := xs) (k := k) (by simpa using hk) (by omega)
        simpa using this
/-- a place where the ticket stands is its place -/
theorem pos_is {t : Int} : ∀ {L : List (Int × Int)}, Fine L → ∀ {k : Nat} (hk : k < L.length), (L[k]).1 = t → pos t L = k
  | [], _, k, hk, _ => by simp at hk
  | x :: xs, h, k, hk, e => by
    cases k with
    | zero => have e' : x.1 = t := by simpa using e
              simp [pos, e']
    | succ k =>
      have hk' : k < xs.length := by simpa using hk
      have e' : (xs[k]).1 = t := by simpa using e
      have hne : ¬ x.1 = t := fun e2 => (List.nodup_cons.1 h.once).1 (by rw [e2, ← e']; exact List.mem_map.2 ⟨xs[k], List.getElem_mem hk', rfl⟩)
      simp [pos, hne, pos_is h.tail hk' e']

/-- a ledger -/
structure Lg where
  cap : Int
  mark : Int
  used : Int
  L : List (Int × Int)
structure Ok (s : Lg) : Prop where
  cap2 : 2 ≤ s.cap
  cap64 : s.cap ≤ 64
  used0 : 0 ≤ s.used
  room : s.used + total s.L ≤ s.cap
  fine : Fine s.L
abbrev mayNew (c m : Int) : Prop := 2 ≤ c ∧ c ≤ 64 ∧ 1 ≤ m ∧ m ≤ c
def newS (c m : Int) : Lg := ⟨c, m, 0, []⟩
theorem Ok.new {c m : Int} (h : mayNew c m) : Ok (newS c m) := ⟨h.1, h.2.1, Int.le_refl _, by have := h.1; simp only [newS, total]; omega, Fine.nil⟩
def fitsS (s : Lg) (n : Int) : Bool := decide (1 ≤ n ∧ n ≤ s.cap - s.used - total s.L)
def rsvE (s : Lg) (t n : Int) : Int := if t = 0 ∨ n < 1 then 2 else if (look t s.L).isSome then 110 else if fitsS s n then 0 else 120
def rsvS (s : Lg) (t n : Int) : Lg := if rsvE s t n = 0 then { s with L := s.L ++ [(t, n)] } else s
def appE (s : Lg) (t : Int) : Int := match look t s.L with | none => 110 | some n => if n = 0 then 120 else 0
def appS (s : Lg) (t : Int) : Lg := match look t s.L with | none => s | some n => if n = 0 then s else { s with used := s.used + 1, L := set t (n - 1) s.L }
def clsE (s : Lg) (t : Int) : Int := if (look t s.L).isSome then 0 else 110
def clsS (s : Lg) (t : Int) : Lg := { s with L := cut t s.L }
def freE (s : Lg) (n : Int) : Int := if 0 ≤ n ∧ n ≤ s.used then 0 else 2
def freS (s : Lg) (n : Int) : Lg := if 0 ≤ n ∧ n ≤ s.used then { s with used := s.used - n } else s
def markedS (s : Lg) : Bool := decide (s.mark ≤ s.used)
theorem cut_none {t : Int} : ∀ {L : List (Int × Int)}, look t L = none → cut t L = L
  | [], _ => rfl
  | x :: xs, h => by
    by_cases e : x.1 = t
    · simp [look, e] at h
    · simp only [look, if_neg e] at h
      simp only [cut, if_neg e, cut_none h]
theorem Ok.rsv {s : Lg} (h : Ok s) (t n : Int) : Ok (rsvS s t n) := by
  unfold rsvS
  split
  · rename_i e
    unfold rsvE at e
    split at e
    · cases e
    · rename_i e1
      split at e
      · cases e
      · rename_i e2
        split at e
        · rename_i e3
          have e4 : look t s.L = none := by cases hh : look t s.L <;> simp [hh] at e2 ⊢
          have e5 : 1 ≤ n ∧ n ≤ s.cap - s.used - total s.L := by simpa [fitsS] using e3
          exact ⟨h.cap2, h.cap64, h.used0, by have := h.room; simp only [total_app]; omega, h.fine.app e4 (by omega)⟩
        · cases e
  · exact h
theorem Ok.app {s : Lg} (h : Ok s) (t : Int) : Ok (appS s t) := by
  unfold appS
  split
  · exact h
  · rename_i n e
    have := look_le h.fine e
    split
    · exact h
    · exact ⟨h.cap2, h.cap64, by have := h.used0; show 0 ≤ s.used + 1; omega, by have := h.room; show s.used + 1 + total (set t (n - 1) s.L) ≤ s.cap; rw [total_set e]; omega, h.fine.set (by omega)⟩
theorem Ok.cls {s : Lg} (h : Ok s) (t : Int) : Ok (clsS s t) := by
  refine ⟨h.cap2, h.cap64, h.used0, ?_, h.fine.cut t⟩
  show s.used + total (cut t s.L) ≤ s.cap
  have := h.room
  cases e : look t s.L with
  | none => rw [cut_none e]; exact this
  | some n => rw [total_cut e]; have := look_le h.fine e; omega
theorem Ok.fre {s : Lg} (h : Ok s) (n : Int) : Ok (freS s n) := by
  unfold freS
  split
  · exact ⟨h.cap2, h.cap64, by show 0 ≤ s.used - n; omega, by have := h.room; show s.used - n + total s.L ≤ s.cap; omega, h.fine⟩
  · exact h
theorem Ok.total0 {s : Lg} (h : Ok s) : 0 ≤ total s.L := total_nonneg h.fine
theorem Ok.nums {s : Lg} (h : Ok s) : 2 ≤ s.cap ∧ s.cap ≤ 64 ∧ 0 ≤ s.used ∧ 0 ≤ total s.L ∧ s.used + total s.L ≤ s.cap := ⟨h.cap2, h.cap64, h.used0, h.total0, h.room⟩
end Go.Proofs.YtkgjmejpbklabaaGreat.L
