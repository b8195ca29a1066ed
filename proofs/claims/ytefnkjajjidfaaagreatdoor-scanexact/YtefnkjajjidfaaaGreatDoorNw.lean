/-
  Plain mathematics of layer 10, second part: the newest image of each block.
-/
import Derived.Test.YtefnkjajjidfaaaGreatDoorSc
namespace Go.Proofs.YtefnkjajjidfaaaGreatDoor

/-- an image more in a list that rises, if its block has none there -/
def withS : List Im → Im → List Im
  | [], x => [x]
  | y :: l, x => if y.b < x.b then y :: withS l x else if y.b = x.b then y :: l else x :: y :: l
def nwS : List Im → List Im
  | [] => []
  | x :: xs => withS (nwS xs) x
abbrev blks (l : List Im) : List Int := l.map (·.b)
theorem withS_lt {y x : Im} (l : List Im) (h : y.b < x.b) : withS (y :: l) x = y :: withS l x := if_pos h
theorem withS_eq {y x : Im} (l : List Im) (h : y.b = x.b) : withS (y :: l) x = y :: l := by
  show (if _ then _ else _) = _
  rw [if_neg (by omega), if_pos h]
theorem withS_gt {y x : Im} (l : List Im) (h : x.b < y.b) : withS (y :: l) x = x :: y :: l := by
  show (if _ then _ else _) = _
  rw [if_neg (by omega), if_neg (by omega)]
theorem withS_blks (l : List Im) (x : Im) (b : Int) : b ∈ blks (withS l x) ↔ b ∈ blks l ∨ b = x.b := by
  induction l with
  | nil => simp [withS]
  | cons y l ih =>
    rcases Int.lt_trichotomy y.b x.b with h | h | h
    · rw [withS_lt l h]
      show b ∈ y.b :: blks (withS l x) ↔ b ∈ y.b :: blks l ∨ _
      rw [List.mem_cons, List.mem_cons, ih, or_assoc]
    · rw [withS_eq l h]
      show b ∈ y.b :: blks l ↔ b ∈ y.b :: blks l ∨ _
      rw [List.mem_cons]
      exact ⟨.inl, fun k => k.elim id fun e => .inl (e.trans h.symm)⟩
    · rw [withS_gt l h]
      show b ∈ x.b :: blks (y :: l) ↔ _
      rw [List.mem_cons]
      exact Or.comm
theorem withS_up (l : List Im) (x : Im) (h : (blks l).Pairwise (· < ·)) : (blks (withS l x)).Pairwise (· < ·) := by
  induction l with
  | nil => simp [withS]
  | cons y l ih =>
    have h' := List.pairwise_cons.1 (show (y.b :: blks l).Pairwise (· < ·) from h)
    rcases Int.lt_trichotomy y.b x.b with c | c | c
    · rw [withS_lt l c]
      show (y.b :: blks (withS l x)).Pairwise (· < ·)
      refine List.pairwise_cons.2 ⟨fun b hb => ?_, ih h'.2⟩
      rcases (withS_blks l x b).1 hb with hb | hb
      · exact h'.1 b hb
      · rw [hb]; exact c
    · rw [withS_eq l c]; exact h
    · rw [withS_gt l c]
      show (x.b :: y.b :: blks l).Pairwise (· < ·)
      refine List.pairwise_cons.2 ⟨fun b hb => ?_, h⟩
      rcases List.mem_cons.1 hb with hb | hb
      · rw [hb]; exact c
      · have := h'.1 b hb; omega
theorem withS_mem (l : List Im) (x z : Im) (h : (blks l).Pairwise (· < ·)) (hz : z ∈ withS l x) : z ∈ l ∨ (z = x ∧ x.b ∉ blks l) := by
  induction l with
  | nil => exact .inr ⟨by simpa [withS] using hz, by simp⟩
  | cons y l ih =>
    have h' := List.pairwise_cons.1 (show (y.b :: blks l).Pairwise (· < ·) from h)
    rcases Int.lt_trichotomy y.b x.b with c | c | c
    · rw [withS_lt l c] at hz
      rcases List.mem_cons.1 hz with e | hz
      · exact .inl (List.mem_cons.2 (.inl e))
      · rcases ih h'.2 hz with e | ⟨e, n⟩
        · exact .inl (List.mem_cons.2 (.inr e))
        · refine .inr ⟨e, fun m => ?_⟩
          rcases List.mem_cons.1 (show x.b ∈ y.b :: blks l from m) with m | m
          · omega
          · exact n m
    · rw [withS_eq l c] at hz; exact .inl hz
    · rw [withS_gt l c] at hz
      rcases List.mem_cons.1 hz with e | hz
      · refine .inr ⟨e, fun m => ?_⟩
        rcases List.mem_cons.1 (show x.b ∈ y.b :: blks l from m) with m | m
        · omega
        · have := h'.1 _ m; omega
      · exact .inl hz
theorem withS_wf {l : List Im} {x : Im} (h : ImsWf l) (hx : x.Wf) : ImsWf (withS l x) := by
  induction l with
  | nil => intro z hz; rw [show z = x by simpa [withS] using hz]; exact hx
  | cons y l ih =>
    have hy := h y (List.mem_cons.2 (.inl rfl))
    have hl : ImsWf l := fun z hz => h z (List.mem_cons.2 (.inr hz))
    rcases Int.lt_trichotomy y.b x.b with c | c | c
    · rw [withS_lt l c]; intro z hz
      rcases List.mem_cons.1 hz with e | hz
      · rw [e]; exact hy
      · exact ih hl z hz
    · rw [withS_eq l c]; exact h
    · rw [withS_gt l c]; intro z hz
      rcases List.mem_cons.1 hz with e | hz
      · rw [e]; exact hx
      · exact h z hz
theorem withS_len (l : List Im) (x : Im) : (withS l x).length ≤ l.length + 1 := by
  induction l with
  | nil => simp [withS]
  | cons y l ih =>
    rcases Int.lt_trichotomy y.b x.b with c | c | c
    · rw [withS_lt l c]; simp only [List.length_cons]; omega
    · rw [withS_eq l c]; omega
    · rw [withS_gt l c]; simp only [List.length_cons]; omega
theorem nwS_up : ∀ l, (blks (nwS l)).Pairwise (· < ·)
  | [] => List.Pairwise.nil
  | _ :: xs => withS_up _ _ (nwS_up xs)
theorem nwS_wf : ∀ {l}, ImsWf l → ImsWf (nwS l)
  | [], _ => ImsWf.nil
  | x :: _, h => withS_wf (nwS_wf fun z hz => h z (List.mem_cons.2 (.inr hz))) (h x (List.mem_cons.2 (.inl rfl)))
theorem nwS_len : ∀ l, (nwS l).length ≤ l.length
  | [] => Nat.le_refl _
  | x :: xs => by
    have := withS_len (nwS xs) x; have := nwS_len xs
    show (withS (nwS xs) x).length ≤ xs.length + 1
    omega
theorem nwS_blks : ∀ (l : List Im) (b : Int), b ∈ blks (nwS l) ↔ b ∈ blks l
  | [], b => Iff.rfl
  | x :: xs, b => by
    show b ∈ blks (withS (nwS xs) x) ↔ b ∈ x.b :: blks xs
    rw [withS_blks, nwS_blks xs b, List.mem_cons]
    exact Or.comm
/-- what comes last at a block -/
def lastV : List Im → Int → List Int
  | [], _ => []
  | x :: xs, b => if b ∈ blks xs then lastV xs b else if x.b = b then x.v else []
theorem lastV_in {x : Im} {xs : List Im} {b : Int} (h : b ∈ blks xs) : lastV (x :: xs) b = lastV xs b := if_pos h
theorem lastV_new {x : Im} {xs : List Im} (h : x.b ∉ blks xs) : lastV (x :: xs) x.b = x.v := by
  show (if _ then _ else _) = _
  rw [if_neg h, if_pos rfl]
theorem lastV_out : ∀ {l : List Im} {b : Int}, b ∉ blks l → lastV l b = []
  | [], _, _ => rfl
  | x :: xs, b, h => by
    have h' : ¬ (b = x.b ∨ b ∈ blks xs) := fun k => h (List.mem_cons.2 k)
    show (if _ then _ else _) = _
    rw [if_neg fun k => h' (.inr k), if_neg fun k => h' (.inl k.symm)]
theorem lastV_snoc : ∀ (l : List Im) (x : Im) (b : Int), lastV (l ++ [x]) b = if x.b = b then x.v else lastV l b
  | [], x, b => by
    show (if b ∈ blks [] then _ else _) = _
    rw [if_neg (by simp)]; rfl
  | y :: l, x, b => by
    have ih := lastV_snoc l x b
    have hm : b ∈ blks (l ++ [x]) ↔ b ∈ blks l ∨ b = x.b := by simp [blks]
    show (if b ∈ blks (l ++ [x]) then lastV (l ++ [x]) b else _) = _
    by_cases c : x.b = b
    · rw [if_pos (hm.2 (.inr c.symm)), ih, if_pos c, if_pos c]
    · rw [if_neg c] at ih ⊢
      by_cases d : b ∈ blks l
      · rw [if_pos (hm.2 (.inl d)), ih, lastV_in d]
      · rw [if_neg (fun k => (hm.1 k).elim d fun e => c e.symm)]
        show _ = (if b ∈ blks l then lastV l b else _)
        rw [if_neg d]
theorem nwS_last : ∀ (l : List Im) (z : Im), z ∈ nwS l → lastV l z.b = z.v
  | [], z, h => by cases h
  | x :: xs, z, h => by
    rcases withS_mem _ _ _ (nwS_up xs) h with h | ⟨h, n⟩
    · rw [lastV_in ((nwS_blks xs z.b).1 (List.mem_map.2 ⟨z, h, rfl⟩))]; exact nwS_last xs z h
    · rw [h]; exact lastV_new fun k => n ((nwS_blks xs x.b).2 k)
theorem up_eq : ∀ (l m : List Int), l.Pairwise (· < ·) → m.Pairwise (· < ·) → (∀ x, x ∈ l ↔ x ∈ m) → l = m
  | [], [], _, _, _ => rfl
  | [], y :: m, _, _, h => by have := (h y).2 (List.mem_cons.2 (.inl rfl)); cases this
  | x :: l, [], _, _, h => by have := (h x).1 (List.mem_cons.2 (.inl rfl)); cases this
  | x :: l, y :: m, hl, hm, h => by
    have hl' := List.pairwise_cons.1 hl
    have hm' := List.pairwise_cons.1 hm
    have e : x = y := by
      rcases List.mem_cons.1 ((h x).1 (List.mem_cons.2 (.inl rfl))) with e | e
      · exact e
      · rcases List.mem_cons.1 ((h y).2 (List.mem_cons.2 (.inl rfl))) with f | f
        · exact f.symm
        · have := hm'.1 x e; have := hl'.1 y f; omega
    subst e
    rw [up_eq l m hl'.2 hm'.2 fun z => ?_]
    constructor
    · intro hz
      rcases List.mem_cons.1 ((h z).1 (List.mem_cons.2 (.inr hz))) with f | f
      · have := hl'.1 z hz; omega
      · exact f
    · intro hz
      rcases List.mem_cons.1 ((h z).2 (List.mem_cons.2 (.inr hz))) with f | f
      · have := hm'.1 z hz; omega
      · exact f
/-- **the newest image of each block, by the blocks rising** -/
theorem nw_eq (l : List Im) (K : List Int) (hK : K.Pairwise (· < ·)) (h : ∀ b, b ∈ K ↔ b ∈ blks l) : K.map (fun b => (⟨b, lastV l b⟩ : Im)) = nwS l := by
  rw [up_eq K (blks (nwS l)) hK (nwS_up l) fun b => (h b).trans (nwS_blks l b).symm]
  rw [List.map_map]
  refine (List.map_congr_left (g := id) fun z hz => ?_).trans (List.map_id _)
  show (⟨z.b, lastV l z.b⟩ : Im) = z
  rw [nwS_last l z hz]
/-- the images of transactions, one behind the other -/
def flat (l : List TX) : List Im := l.flatMap (·.ims)
theorem flat_cons (t : TX) (l : List TX) : flat (t :: l) = t.ims ++ flat l := rfl
theorem flat_snoc (l : List TX) (t : TX) : flat (l ++ [t]) = flat l ++ t.ims := by simp [flat]
theorem flat_wf {l : List TX} (h : TxsWf l) : ImsWf (flat l) := fun x hx => by
  obtain ⟨t, ht, hx⟩ := List.mem_flatMap.1 hx
  exact (h t ht).ims x hx
end Go.Proofs.YtefnkjajjidfaaaGreatDoor
