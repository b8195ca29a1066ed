/-
  Plain mathematics of layer 4: sectors of a list, writes that wait, what a crash keeps. Imports nothing.
-/
import Derived.Test.YtefnkjajjidfaaaGreatDoorMath
namespace Go.Proofs.YtefnkjajjidfaaaGreatDoor
/-- a write: its sector, its bytes -/
structure Wr where
  s : Nat
  b : List Int
/-- the bytes of sector i -/
def sec (d : List Int) (i : Nat) : List Int := (d.drop (64 * i)).take 64
/-- the bytes with those of sector s written over -/
def put (d : List Int) (s : Nat) (b : List Int) : List Int := d.take (64 * s) ++ b ++ d.drop (64 * s + 64)
theorem sec_length {d : List Int} {n i : Nat} (hd : d.length = 64 * n) (hi : i < n) : (sec d i).length = 64 := by
  simp [sec, hd]; omega
theorem put_length {d b : List Int} {n s : Nat} (hd : d.length = 64 * n) (hs : s < n) (hb : b.length = 64) : (put d s b).length = 64 * n := by
  simp [put, hd, hb]; omega
theorem sec_get (d : List Int) (i j : Nat) (hj : j < 64) : (sec d i)[j]? = d[64 * i + j]? := by
  simp [sec, hj]
theorem put_get {d b : List Int} {n s : Nat} (hd : d.length = 64 * n) (hs : s < n) (hb : b.length = 64) (k : Nat) : (put d s b)[k]? = if 64 * s ≤ k ∧ k < 64 * s + 64 then b[k - 64 * s]? else d[k]? := by
  have h1 : (d.take (64 * s)).length = 64 * s := by simp [hd]; omega
  unfold put
  by_cases c1 : k < 64 * s
  · rw [List.append_assoc, List.getElem?_append_left (by omega), List.getElem?_take, if_pos c1, if_neg (by omega)]
  · by_cases c2 : k < 64 * s + 64
    · rw [List.append_assoc, List.getElem?_append_right (by omega), h1, List.getElem?_append_left (by omega), if_pos (by omega)]
    · rw [List.getElem?_append_right (by simp [hd, hb]; omega), if_neg (by omega), List.getElem?_drop]
      congr 1
      simp [hd, hb]; omega
theorem sec_put_same {d b : List Int} {n s : Nat} (hd : d.length = 64 * n) (hs : s < n) (hb : b.length = 64) : sec (put d s b) s = b := by
  apply List.ext_getElem?
  intro j
  by_cases hj : j < 64
  · rw [sec_get _ _ _ hj, put_get hd hs hb, if_pos (by omega)]
    congr 1; omega
  · rw [List.getElem?_eq_none (by rw [sec_length (put_length hd hs hb) hs]; omega), List.getElem?_eq_none (by omega)]
theorem sec_put_other {d b : List Int} {n s i : Nat} (hd : d.length = 64 * n) (hs : s < n) (hb : b.length = 64) (hi : i < n) (hne : i ≠ s) : sec (put d s b) i = sec d i := by
  apply List.ext_getElem?
  intro j
  by_cases hj : j < 64
  · rw [sec_get _ _ _ hj, sec_get _ _ _ hj, put_get hd hs hb, if_neg (by omega)]
  · rw [List.getElem?_eq_none (by rw [sec_length (put_length hd hs hb) hi]; omega), List.getElem?_eq_none (by rw [sec_length hd hi]; omega)]
theorem sec_put {d b : List Int} {n s i : Nat} (hd : d.length = 64 * n) (hs : s < n) (hb : b.length = 64) (hi : i < n) : sec (put d s b) i = if i = s then b else sec d i := by
  by_cases h : i = s
  · subst h; rw [if_pos rfl, sec_put_same hd hs hb]
  · rw [if_neg h, sec_put_other hd hs hb hi h]
/-- sector by sector -/
theorem sec_step (d : List Int) (i : Nat) : d.take (64 * (i + 1)) = d.take (64 * i) ++ sec d i := by
  rw [show 64 * (i + 1) = 64 * i + 64 by omega, List.take_add]; rfl
theorem ext_sec {d e : List Int} {n : Nat} (hd : d.length = 64 * n) (he : e.length = 64 * n) (h : ∀ i, i < n → sec d i = sec e i) : d = e := by
  apply List.ext_getElem?
  intro k
  by_cases hk : k < 64 * n
  · have h1 := sec_get d (k / 64) (k % 64) (by omega)
    have h2 := sec_get e (k / 64) (k % 64) (by omega)
    rw [h (k / 64) (by omega), h2] at h1
    rw [show 64 * (k / 64) + k % 64 = k by omega] at h1
    exact h1.symm
  · rw [List.getElem?_eq_none (by omega), List.getElem?_eq_none (by omega)]
theorem Bytes.getD {xs : List Int} (h : Bytes xs) (i : Nat) : 0 ≤ xs.getD i 0 ∧ xs.getD i 0 < 256 := by
  by_cases hi : i < xs.length
  · simp only [List.getD, List.getElem?_eq_getElem hi, Option.getD_some]; exact h.at i hi
  · simp [List.getD, List.getElem?_eq_none (show xs.length ≤ i by omega)]
theorem Bytes.rep (n : Nat) (x : Int) (h : 0 ≤ x ∧ x < 256) : Bytes (List.replicate n x) := fun y hy => by
  rw [List.mem_replicate] at hy; rw [hy.2]; exact h
theorem Bytes.sec {d : List Int} (h : Bytes d) (i : Nat) : Bytes (sec d i) := (h.drop _).take _
theorem Bytes.put {d b : List Int} (h : Bytes d) (hb : Bytes b) (s : Nat) : Bytes (put d s b) := ((h.take _).append hb).append (h.drop _)
/-- a list of lists of one length, one behind the other -/
theorem flat_at {α : Type} {m : Nat} : ∀ (L : List (List α)) (_ : ∀ l ∈ L, l.length = m) (i : Nat) (h : i < L.length) (j : Nat) (_ : j < m), L.flatten[m * i + j]? = L[i][j]?
  | [], _, i, h, _, _ => by simp at h
  | a :: r, hl, 0, _, j, hj => by
    have ha := hl a List.mem_cons_self
    simp only [List.flatten_cons, Nat.mul_zero, Nat.zero_add, List.getElem_cons_zero]
    rw [List.getElem?_append_left (by omega)]
  | a :: r, hl, i + 1, h, j, hj => by
    have ha := hl a List.mem_cons_self
    simp only [List.flatten_cons, List.getElem_cons_succ]
    rw [List.getElem?_append_right (by rw [ha, Nat.mul_add]; omega), ← flat_at r (fun l hl' => hl l (List.mem_cons_of_mem _ hl')) i (by simpa using h) j hj]
    congr 1
    rw [ha, Nat.mul_add]; omega
theorem flat_length {α : Type} {m : Nat} : ∀ (L : List (List α)) (_ : ∀ l ∈ L, l.length = m), L.flatten.length = L.length * m
  | [], _ => by simp
  | a :: r, hl => by
    have ha := hl a List.mem_cons_self
    rw [List.flatten_cons, List.length_append, flat_length r (fun l hl' => hl l (List.mem_cons_of_mem _ hl')), ha, List.length_cons, Nat.add_mul]
    omega
/-- what the first k writes leave, those of the numbers K -/
def setl (K : Nat → Bool) (ws : List Wr) (d : List Int) : Nat → List Int
  | 0 => d
  | k + 1 => match ws[k]? with
    | some x => if K k then put (setl K ws d k) x.s x.b else setl K ws d k
    | none => setl K ws d k
/-- what sector i reads, of the first k writes -/
def newk (ws : List Wr) (d : List Int) (i : Nat) : Nat → List Int
  | 0 => sec d i
  | k + 1 => match ws[k]? with
    | some x => if x.s = i then x.b else newk ws d i k
    | none => newk ws d i k
def newest (ws : List Wr) (d : List Int) (i : Nat) : List Int := newk ws d i ws.length
def settle (K : Nat → Bool) (ws : List Wr) (d : List Int) : List Int := setl K ws d ws.length
/-- writes that may be, on a disk of n sectors -/
def Fit (n : Nat) (ws : List Wr) : Prop := ∀ x ∈ ws, x.s < n ∧ x.b.length = 64 ∧ Bytes x.b
theorem Fit.nil (n : Nat) : Fit n [] := fun x h => by cases h
theorem Fit.at {n : Nat} {ws : List Wr} (h : Fit n ws) (i : Nat) (hi : i < ws.length) : ws[i].s < n ∧ ws[i].b.length = 64 ∧ Bytes ws[i].b := h _ (List.getElem_mem hi)
theorem Fit.snoc {n : Nat} {ws : List Wr} (h : Fit n ws) {s : Nat} {b : List Int} (hs : s < n) (hb : b.length = 64) (hy : Bytes b) : Fit n (ws ++ [⟨s, b⟩]) := fun x hx => by
  rcases List.mem_append.1 hx with hx | hx
  · exact h x hx
  · rcases List.mem_singleton.1 hx with rfl; exact ⟨hs, hb, hy⟩
theorem setl_step (K : Nat → Bool) (ws : List Wr) (d : List Int) (k : Nat) (hk : k < ws.length) : setl K ws d (k + 1) = if K k then put (setl K ws d k) ws[k].s ws[k].b else setl K ws d k := by
  simp [setl, List.getElem?_eq_getElem hk]
theorem newk_step (ws : List Wr) (d : List Int) (i k : Nat) (hk : k < ws.length) : newk ws d i (k + 1) = if ws[k].s = i then ws[k].b else newk ws d i k := by
  simp [newk, List.getElem?_eq_getElem hk]
theorem setl_length {K : Nat → Bool} {ws : List Wr} {d : List Int} {n : Nat} (hd : d.length = 64 * n) (hw : Fit n ws) : ∀ k, (setl K ws d k).length = 64 * n
  | 0 => hd
  | k + 1 => by
    by_cases hk : k < ws.length
    · rw [setl_step K ws d k hk]
      split
      · exact put_length (setl_length hd hw k) (hw.at k hk).1 (hw.at k hk).2.1
      · exact setl_length hd hw k
    · simp [setl, List.getElem?_eq_none (show ws.length ≤ k by omega)]; exact setl_length hd hw k
theorem setl_bytes {K : Nat → Bool} {ws : List Wr} {d : List Int} {n : Nat} (hd : Bytes d) (hw : Fit n ws) : ∀ k, Bytes (setl K ws d k)
  | 0 => hd
  | k + 1 => by
    by_cases hk : k < ws.length
    · rw [setl_step K ws d k hk]
      split
      · exact (setl_bytes hd hw k).put (hw.at k hk).2.2 _
      · exact setl_bytes hd hw k
    · simp [setl, List.getElem?_eq_none (show ws.length ≤ k by omega)]; exact setl_bytes hd hw k
theorem newk_length {ws : List Wr} {d : List Int} {n i : Nat} (hd : d.length = 64 * n) (hw : Fit n ws) (hi : i < n) : ∀ k, (newk ws d i k).length = 64
  | 0 => sec_length hd hi
  | k + 1 => by
    by_cases hk : k < ws.length
    · rw [newk_step ws d i k hk]
      split
      · exact (hw.at k hk).2.1
      · exact newk_length hd hw hi k
    · simp [newk, List.getElem?_eq_none (show ws.length ≤ k by omega)]; exact newk_length hd hw hi k
theorem newk_bytes {ws : List Wr} {d : List Int} {n i : Nat} (hd : Bytes d) (hw : Fit n ws) : ∀ k, Bytes (newk ws d i k)
  | 0 => hd.sec i
  | k + 1 => by
    by_cases hk : k < ws.length
    · rw [newk_step ws d i k hk]
      split
      · exact (hw.at k hk).2.2
      · exact newk_bytes hd hw k
    · simp [newk, List.getElem?_eq_none (show ws.length ≤ k by omega)]; exact newk_bytes hd hw k
theorem newk_more (ws : List Wr) (d : List Int) (i : Nat) (x : Wr) : ∀ k, k ≤ ws.length → newk (ws ++ [x]) d i k = newk ws d i k
  | 0, _ => rfl
  | k + 1, h => by
    rw [newk_step _ d i k (by simp; omega), newk_step ws d i k (by omega), newk_more ws d i x k (by omega), List.getElem_append_left (by omega)]
theorem newest_snoc (ws : List Wr) (d : List Int) (i s : Nat) (b : List Int) : newest (ws ++ [⟨s, b⟩]) d i = if i = s then b else newest ws d i := by
  unfold newest
  rw [List.length_append, List.length_singleton, newk_step _ d i _ (by simp), newk_more _ _ _ _ _ (Nat.le_refl _)]
  simp only [List.getElem_concat_length, eq_comm]
theorem newest_nil (d : List Int) (i : Nat) : newest [] d i = sec d i := rfl
/-- a sector of which no write is among the first k -/
theorem setl_quiet {K : Nat → Bool} {ws : List Wr} {d : List Int} {n i : Nat} (hd : d.length = 64 * n) (hw : Fit n ws) (hi : i < n) : ∀ k, (∀ j (hj : j < ws.length), j < k → ws[j].s ≠ i) → sec (setl K ws d k) i = sec d i
  | 0, _ => rfl
  | k + 1, h => by
    have ih := setl_quiet (K := K) hd hw hi k (fun j hj hjk => h j hj (by omega))
    by_cases hk : k < ws.length
    · rw [setl_step K ws d k hk]
      split
      · rw [sec_put_other (setl_length hd hw k) (hw.at k hk).1 (hw.at k hk).2.1 hi (fun e => h k hk (by omega) e.symm), ih]
      · exact ih
    · simp only [setl, List.getElem?_eq_none (show ws.length ≤ k by omega)]; exact ih
theorem newk_quiet {ws : List Wr} {d : List Int} {i : Nat} : ∀ k, (∀ j (hj : j < ws.length), j < k → ws[j].s ≠ i) → newk ws d i k = sec d i
  | 0, _ => rfl
  | k + 1, h => by
    have ih := newk_quiet (d := d) k (fun j hj hjk => h j hj (by omega))
    by_cases hk : k < ws.length
    · rw [newk_step ws d i k hk, if_neg (h k hk (by omega)), ih]
    · simp only [newk, List.getElem?_eq_none (show ws.length ≤ k by omega)]; exact ih
/-- while what is durable is told again: the first m writes' sectors are done -/
def again (e : List Int) (ws : List Wr) (d : List Int) (i : Nat) : Nat → List Int
  | 0 => newest ws d i
  | k + 1 => match ws[k]? with
    | some x => if x.s = i then sec e i else again e ws d i k
    | none => again e ws d i k
theorem again_step (e : List Int) (ws : List Wr) (d : List Int) (i k : Nat) (hk : k < ws.length) : again e ws d i (k + 1) = if ws[k].s = i then sec e i else again e ws d i k := by
  simp [again, List.getElem?_eq_getElem hk]
theorem again_or (e : List Int) (ws : List Wr) (d : List Int) (i : Nat) : ∀ k, again e ws d i k = sec e i ∨ (again e ws d i k = newest ws d i ∧ ∀ j (hj : j < ws.length), j < k → ws[j].s ≠ i)
  | 0 => .inr ⟨rfl, fun _ _ h => by omega⟩
  | k + 1 => by
    rcases again_or e ws d i k with h | ⟨h, hq⟩
    · left
      by_cases hk : k < ws.length
      · rw [again_step e ws d i k hk]; split <;> simp [h]
      · simp only [again, List.getElem?_eq_none (show ws.length ≤ k by omega)]; exact h
    · by_cases hk : k < ws.length
      · rw [again_step e ws d i k hk]
        by_cases c : ws[k].s = i
        · left; rw [if_pos c]
        · right; rw [if_neg c]
          exact ⟨h, fun j hj hjk => by
            by_cases e2 : j = k
            · subst e2; exact c
            · exact hq j hj (by omega)⟩
      · right
        simp only [again, List.getElem?_eq_none (show ws.length ≤ k by omega)]
        exact ⟨h, fun j hj hjk => hq j hj (by omega)⟩
theorem again_all {K : Nat → Bool} {ws : List Wr} {d : List Int} {n i : Nat} (hd : d.length = 64 * n) (hw : Fit n ws) (hi : i < n) : again (settle K ws d) ws d i ws.length = sec (settle K ws d) i := by
  rcases again_or (settle K ws d) ws d i ws.length with h | ⟨h, hq⟩
  · exact h
  · rw [h]
    unfold settle newest
    rw [setl_quiet hd hw hi _ (fun j hj _ => hq j hj hj), newk_quiet _ (fun j hj _ => hq j hj hj)]
theorem again_length {e : List Int} {ws : List Wr} {d : List Int} {n i : Nat} (he : e.length = 64 * n) (hd : d.length = 64 * n) (hw : Fit n ws) (hi : i < n) (k : Nat) : (again e ws d i k).length = 64 := by
  rcases again_or e ws d i k with h | ⟨h, _⟩
  · rw [h]; exact sec_length he hi
  · rw [h]; exact newk_length hd hw hi _
end Go.Proofs.YtefnkjajjidfaaaGreatDoor
