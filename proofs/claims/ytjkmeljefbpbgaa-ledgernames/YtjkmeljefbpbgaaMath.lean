/-
  Layer 12: ledgers, as plain mathematics.
-/
namespace Go.Proofs.Ytjkmeljefbpbgaa

/-- what is left of a ticket -/
def look (t : Int) : List (Int × Int) → Option Int
  | [] => none
  | x :: xs => if x.1 = t then some x.2 else look t xs
/-- where a ticket stands; the length, if nowhere -/
def pos (t : Int) : List (Int × Int) → Nat
  | [] => 0
  | x :: xs => if x.1 = t then 0 else pos t xs + 1
def total : List (Int × Int) → Int
  | [] => 0
  | x :: xs => x.2 + total xs
def cut (t : Int) : List (Int × Int) → List (Int × Int)
  | [] => []
  | x :: xs => if x.1 = t then xs else x :: cut t xs
def set (t v : Int) : List (Int × Int) → List (Int × Int)
  | [] => []
  | x :: xs => if x.1 = t then (t, v) :: xs else x :: set t v xs

/-- a list that may be a ledger's -/
structure Fine (L : List (Int × Int)) : Prop where
  nonneg : ∀ x ∈ L, 0 ≤ x.2
  once : (L.map Prod.fst).Nodup
theorem Fine.nil : Fine [] := ⟨fun _ h => absurd h List.not_mem_nil, List.nodup_nil⟩
theorem Fine.tail {x : Int × Int} {xs : List (Int × Int)} (h : Fine (x :: xs)) : Fine xs := ⟨fun y hy => h.nonneg y (List.mem_cons_of_mem _ hy), (List.nodup_cons.1 h.once).2⟩
theorem look_none {t : Int} : ∀ {L : List (Int × Int)}, look t L = none ↔ t ∉ L.map Prod.fst
  | [] => by simp [look]
  | x :: xs => by
    by_cases e : x.1 = t
    · simp [look, e]
    · simp only [look, if_neg e, List.map_cons, List.mem_cons, not_or]
      rw [look_none (L := xs)]
      exact ⟨fun h => ⟨fun e2 => e e2.symm, h⟩, fun h => h.2⟩
theorem look_app {t u n : Int} : ∀ {L : List (Int × Int)}, look u L = none → look t (L ++ [(u, n)]) = if t = u then some n else look t L
  | [], _ => by
    by_cases e : u = t
    · subst e; simp [look]
    · simp [look, e, Ne.symm e]
  | x :: xs, h => by
    by_cases e : x.1 = u
    · simp [look, e] at h
    · simp only [look, if_neg e] at h
      by_cases e2 : x.1 = t
      · subst e2; simp [look, e]
      · simp only [List.cons_append, look, if_neg e2, look_app h]
theorem look_set {t u v : Int} : ∀ {L : List (Int × Int)} {n : Int}, look u L = some n → look t (set u v L) = if t = u then some v else look t L
  | [], _, h => by simp [look] at h
  | x :: xs, n, h => by
    by_cases e : x.1 = u
    · by_cases e2 : t = u
      · subst e2; simp [set, look, e]
      · subst e
        have : ¬ x.1 = t := fun e3 => e2 e3.symm
        simp [set, look, this, e2]
    · simp only [look, if_neg e] at h
      by_cases e2 : x.1 = t
      · subst e2; simp [set, look, e]
      · simp only [set, look, if_neg e, if_neg e2, look_set h]
theorem look_cut {t u : Int} : ∀ {L : List (Int × Int)}, Fine L → look t (cut u L) = if t = u then none else look t L
  | [], _ => by simp [look, cut]
  | x :: xs, h => by
    by_cases e : x.1 = u
    · by_cases e2 : t = u
      · subst e2
        have h1 : look t xs = none := look_none.2 (by rw [← e]; exact (List.nodup_cons.1 h.once).1)
        simp [cut, e, h1]
      · subst e
        have : ¬ x.1 = t := fun e3 => e2 e3.symm
        simp [cut, look, this, e2]
    · by_cases e2 : x.1 = t
      · subst e2; simp [cut, look, e]
      · simp only [cut, look, if_neg e, if_neg e2, look_cut h.tail]
theorem total_app (n u : Int) : ∀ L : List (Int × Int), total (L ++ [(u, n)]) = total L + n
  | [] => by simp [total]
  | x :: xs => by simp only [List.cons_append, total, total_app n u xs]; omega
theorem total_set {u v : Int} : ∀ {L : List (Int × Int)} {n : Int}, look u L = some n → total (set u v L) = total L - n + v
  | [], _, h => by simp [look] at h
  | x :: xs, n, h => by
    by_cases e : x.1 = u
    · simp only [look, if_pos e, Option.some.injEq] at h
      simp only [set, if_pos e, total]; omega
    · simp only [look, if_neg e] at h
      simp only [set, if_neg e, total, total_set h]; omega
theorem total_cut {u : Int} : ∀ {L : List (Int × Int)} {n : Int}, look u L = some n → total (cut u L) = total L - n
  | [], _, h => by simp [look] at h
  | x :: xs, n, h => by
    by_cases e : x.1 = u
    · simp only [look, if_pos e, Option.some.injEq] at h
      simp only [cut, if_pos e, total]; omega
    · simp only [look, if_neg e] at h
      simp only [cut, if_neg e, total, total_cut h]; omega
theorem total_nonneg : ∀ {L : List (Int × Int)}, Fine L → 0 ≤ total L
  | [], _ => Int.le_refl _
  | x :: xs, h => by
    have := h.nonneg x (List.mem_cons_self ..)
    have := total_nonneg h.tail
    simp only [total]; omega
theorem look_le {t n : Int} : ∀ {L : List (Int × Int)}, Fine L → look t L = some n → 0 ≤ n ∧ n ≤ total L
  | [], _, h => by simp [look] at h
  | x :: xs, h, e => by
    have := h.nonneg x (List.mem_cons_self ..)
    by_cases e2 : x.1 = t
    · simp only [look, if_pos e2, Option.some.injEq] at e
      have := total_nonneg h.tail
      simp only [total]; omega
    · simp only [look, if_neg e2] at e
      have := look_le h.tail e
      simp only [total]; omega
theorem Fine.app {L : List (Int × Int)} (h : Fine L) {u n : Int} (hu : look u L = none) (hn : 0 ≤ n) : Fine (L ++ [(u, n)]) := by
  refine ⟨fun x hx => ?_, ?_⟩
  · rcases List.mem_append.1 hx with hx | hx
    · exact h.nonneg x hx
    · obtain rfl := List.mem_singleton.1 hx; exact hn
  · rw [List.map_append, List.nodup_append]
    refine ⟨h.once, by simp, fun a ha b hb e => ?_⟩
    simp only [List.map_cons, List.map_nil, List.mem_singleton] at hb
    subst hb; subst e
    exact look_none.1 hu ha
theorem cut_sub (u : Int) : ∀ L : List (Int × Int), (cut u L).Sublist L
  | [] => List.Sublist.refl _
  | x :: xs => by
    by_cases e : x.1 = u
    · simp only [cut, if_pos e]; exact List.sublist_cons_self x xs
    · simp only [cut, if_neg e]; exact (cut_sub u xs).cons_cons x
theorem Fine.cut {L : List (Int × Int)} (h : Fine L) (u : Int) : Fine (cut u L) := ⟨fun x hx => h.nonneg x ((cut_sub u L).subset hx), h.once.sublist ((cut_sub u L).map _)⟩
theorem set_fst (u v : Int) : ∀ L : List (Int × Int), (set u v L).map Prod.fst = L.map Prod.fst
  | [] => rfl
  | x :: xs => by
    by_cases e : x.1 = u
    · simp [set, e]
    · simp [set, e, set_fst u v xs]
theorem set_mem {u v : Int} : ∀ {L : List (Int × Int)} {x : Int × Int}, x ∈ set u v L → x = (u, v) ∨ x ∈ L
  | [], x, h => by simp [set] at h
  | y :: ys, x, h => by
    by_cases e : y.1 = u
    · simp only [set, if_pos e, List.mem_cons] at h
      rcases h with h | h
      · exact .inl h
      · exact .inr (List.mem_cons_of_mem _ h)
    · simp only [set, if_neg e, List.mem_cons] at h
      rcases h with h | h
      · exact .inr (h ▸ List.mem_cons_self ..)
      · rcases set_mem h with h | h
        · exact .inl h
        · exact .inr (List.mem_cons_of_mem _ h)
theorem Fine.set {L : List (Int × Int)} (h : Fine L) {u v : Int} (hv : 0 ≤ v) : Fine (set u v L) := by
  refine ⟨fun x hx => ?_, by rw [set_fst]; exact h.once⟩
  rcases set_mem hx with rfl | hx
  · exact hv
  · exact h.nonneg x hx

theorem pos_le (t : Int) : ∀ L : List (Int × Int), pos t L ≤ L.length
  | [] => Nat.le_refl _
  | x :: xs => by
    have := pos_le t xs
    simp only [pos, List.length_cons]
    split <;> omega
theorem look_pos (t : Int) : ∀ L : List (Int × Int), look t L = (L[pos t L]?).map Prod.snd
  | [] => rfl
  | x :: xs => by
    by_cases e : x.1 = t
    · simp [look, pos, e]
    · simp [look, pos, e, look_pos t xs]
theorem pos_fst (t : Int) : ∀ {L : List (Int × Int)} (h : pos t L < L.length), (L[pos t L]).1 = t
  | [], h => by simp [pos] at h
  | x :: xs, h => by
    by_cases e : x.1 = t
    · simp [pos, e]
    · have h2 : pos t xs < xs.length := by simp only [pos, if_neg e, List.length_cons] at h; omega
      have := pos_fst t h2
      simpa [pos, e] using this
theorem pos_some {t n : Int} {L : List (Int × Int)} (h : look t L = some n) : ∃ hp : pos t L < L.length, L[pos t L] = (t, n) := by
  rw [look_pos] at h
  by_cases hp : pos t L < L.length
  · refine ⟨hp, ?_⟩
    rw [List.getElem?_eq_getElem hp] at h
    simp only [Option.map_some, Option.some.injEq] at h
    exact Prod.ext (pos_fst t hp) h
  · rw [List.getElem?_eq_none (by omega)] at h; cases h
theorem pos_none {t : Int} {L : List (Int × Int)} (h : look t L = none) : pos t L = L.length := by
  rw [look_pos] at h
  have := pos_le t L
  by_cases hp : pos t L < L.length
  · rw [List.getElem?_eq_getElem hp] at h; cases h
  · omega
theorem cut_pos (t : Int) : ∀ L : List (Int × Int), cut t L = L.take (pos t L) ++ L.drop (pos t L + 1)
  | [] => rfl
  | x :: xs => by
    by_cases e : x.1 = t
    · simp [cut, pos, e]
    · simp [cut, pos, e, cut_pos t xs]
theorem set_pos (t v : Int) : ∀ L : List (Int × Int), set t v L = L.set (pos t L) (t, v)
  | [] => rfl
  | x :: xs => by
    by_cases e : x.1 = t
    · simp [set, pos, e]
    · simp [set, pos, e, set_pos t v xs]
/-- ahead of a ticket's place no other is it -/
theorem pos_before (t : Int) : ∀ {L : List (Int × Int)} {k : Nat} (hk : k < L.length), k < pos t L → (L[k]).1 ≠ t
  | [], k, hk, _ => by simp at hk
  | x :: xs, k, hk, h => by
    by_cases e : x.1 = t
    · simp [pos, e] at h
    · cases k with
      | zero => simpa using e
      | succ k =>
        simp only [pos, if_neg e] at h
        have := pos_before t (L := xs) (k := k) (by simpa using hk) (by omega)
        simpa using this
/-- a place where the ticket stands is its place -/
theorem pos_is {t : Int} : ∀ {L : List (Int × Int)}, Fine L → ∀ {k : Nat} (hk : k < L.length), (L[k]).1 = t → pos t L = k
  | [], _, k, hk, _ => by simp at hk
  | x :: xs, h, k, hk, e => by
    cases k with
    | zero => have e' : x.1 = t := by simpa using e
              simp [pos, e']
    | succ k =>
      have hk' : k < xs.length := by simpa using hk
      have e' : (xs[k]).1 = t := by simpa using e
      have hne : ¬ x.1 = t := fun e2 => (List.nodup_cons.1 h.once).1 (by rw [e2, ← e']; exact List.mem_map.2 ⟨xs[k], List.getElem_mem hk', rfl⟩)
      simp [pos, hne, pos_is h.tail hk' e']

/-- a ledger -/
structure Lg where
  cap : Int
  mark : Int
  used : Int
  L : List (Int × Int)
structure Ok (s : Lg) : Prop where
  cap2 : 2 ≤ s.cap
  cap64 : s.cap ≤ 64
  used0 : 0 ≤ s.used
  room : s.used + total s.L ≤ s.cap
  fine : Fine s.L
abbrev mayNew (c m : Int) : Prop := 2 ≤ c ∧ c ≤ 64 ∧ 1 ≤ m ∧ m ≤ c
def newS (c m : Int) : Lg := ⟨c, m, 0, []⟩
theorem Ok.new {c m : Int} (h : mayNew c m) : Ok (newS c m) := ⟨h.1, h.2.1, Int.le_refl _, by have := h.1; simp only [newS, total]; omega, Fine.nil⟩
def fitsS (s : Lg) (n : Int) : Bool := decide (1 ≤ n ∧ n ≤ s.cap - s.used - total s.L)
def rsvE (s : Lg) (t n : Int) : Int := if t = 0 ∨ n < 1 then 2 else if (look t s.L).isSome then 110 else if fitsS s n then 0 else 120
def rsvS (s : Lg) (t n : Int) : Lg := if rsvE s t n = 0 then { s with L := s.L ++ [(t, n)] } else s
def appE (s : Lg) (t : Int) : Int := match look t s.L with | none => 110 | some n => if n = 0 then 120 else 0
def appS (s : Lg) (t : Int) : Lg := match look t s.L with | none => s | some n => if n = 0 then s else { s with used := s.used + 1, L := set t (n - 1) s.L }
def clsE (s : Lg) (t : Int) : Int := if (look t s.L).isSome then 0 else 110
def clsS (s : Lg) (t : Int) : Lg := { s with L := cut t s.L }
def freE (s : Lg) (n : Int) : Int := if 0 ≤ n ∧ n ≤ s.used then 0 else 2
def freS (s : Lg) (n : Int) : Lg := if 0 ≤ n ∧ n ≤ s.used then { s with used := s.used - n } else s
def markedS (s : Lg) : Bool := decide (s.mark ≤ s.used)
theorem cut_none {t : Int} : ∀ {L : List (Int × Int)}, look t L = none → cut t L = L
  | [], _ => rfl
  | x :: xs, h => by
    by_cases e : x.1 = t
    · simp [look, e] at h
    · simp only [look, if_neg e] at h
      simp only [cut, if_neg e, cut_none h]
theorem Ok.rsv {s : Lg} (h : Ok s) (t n : Int) : Ok (rsvS s t n) := by
  unfold rsvS
  split
  · rename_i e
    unfold rsvE at e
    split at e
    · cases e
    · rename_i e1
      split at e
      · cases e
      · rename_i e2
        split at e
        · rename_i e3
          have e4 : look t s.L = none := by cases hh : look t s.L <;> simp [hh] at e2 ⊢
          have e5 : 1 ≤ n ∧ n ≤ s.cap - s.used - total s.L := by simpa [fitsS] using e3
          exact ⟨h.cap2, h.cap64, h.used0, by have := h.room; simp only [total_app]; omega, h.fine.app e4 (by omega)⟩
        · cases e
  · exact h
theorem Ok.app {s : Lg} (h : Ok s) (t : Int) : Ok (appS s t) := by
  unfold appS
  split
  · exact h
  · rename_i n e
    have := look_le h.fine e
    split
    · exact h
    · exact ⟨h.cap2, h.cap64, by have := h.used0; show 0 ≤ s.used + 1; omega, by have := h.room; show s.used + 1 + total (set t (n - 1) s.L) ≤ s.cap; rw [total_set e]; omega, h.fine.set (by omega)⟩
theorem Ok.cls {s : Lg} (h : Ok s) (t : Int) : Ok (clsS s t) := by
  refine ⟨h.cap2, h.cap64, h.used0, ?_, h.fine.cut t⟩
  show s.used + total (cut t s.L) ≤ s.cap
  have := h.room
  cases e : look t s.L with
  | none => rw [cut_none e]; exact this
  | some n => rw [total_cut e]; have := look_le h.fine e; omega
theorem Ok.fre {s : Lg} (h : Ok s) (n : Int) : Ok (freS s n) := by
  unfold freS
  split
  · exact ⟨h.cap2, h.cap64, by show 0 ≤ s.used - n; omega, by have := h.room; show s.used - n + total s.L ≤ s.cap; omega, h.fine⟩
  · exact h
theorem Ok.total0 {s : Lg} (h : Ok s) : 0 ≤ total s.L := total_nonneg h.fine
theorem Ok.nums {s : Lg} (h : Ok s) : 2 ≤ s.cap ∧ s.cap ≤ 64 ∧ 0 ≤ s.used ∧ 0 ≤ total s.L ∧ s.used + total s.L ≤ s.cap := ⟨h.cap2, h.cap64, h.used0, h.total0, h.room⟩
end Go.Proofs.Ytjkmeljefbpbgaa
