/-
  Plain mathematics of layer 1 (octet): numbers and their bytes. Nothing of the dump.
-/
import Derived.Laws.BitsAllLaws
import Derived.Laws.Bits64
import Derived.Below
namespace Go.Proofs.YtefnkjajjidfaaaGreatDoor

/-- each number is a byte's -/
def Bytes (xs : List Int) : Prop := ∀ x ∈ xs, 0 ≤ x ∧ x < 256

/-- the number whose bytes these are, the lowest first -/
def worth : List Int → Int
  | [] => 0
  | x :: r => x + 256 * worth r

/-- the first k bytes of a number, the lowest first -/
def digits : Nat → Int → List Int
  | 0, _ => []
  | k + 1, n => (n % 256) :: digits k (n / 256)

theorem Bytes.nil : Bytes [] := fun x h => by cases h
theorem Bytes.cons {x : Int} {r : List Int} (h : 0 ≤ x ∧ x < 256) (hr : Bytes r) : Bytes (x :: r) := fun y hy => by
  rcases List.mem_cons.1 hy with rfl | hy
  · exact h
  · exact hr y hy
theorem Bytes.tail {x : Int} {r : List Int} (h : Bytes (x :: r)) : Bytes r := fun y hy => h y (List.mem_cons_of_mem _ hy)
theorem Bytes.head {x : Int} {r : List Int} (h : Bytes (x :: r)) : 0 ≤ x ∧ x < 256 := h x List.mem_cons_self
theorem Bytes.take {xs : List Int} (h : Bytes xs) (k : Nat) : Bytes (xs.take k) := fun y hy => h y (List.mem_of_mem_take hy)
theorem Bytes.drop {xs : List Int} (h : Bytes xs) (k : Nat) : Bytes (xs.drop k) := fun y hy => h y (List.mem_of_mem_drop hy)
theorem Bytes.append {xs ys : List Int} (h : Bytes xs) (k : Bytes ys) : Bytes (xs ++ ys) := fun y hy => by
  rcases List.mem_append.1 hy with hy | hy
  · exact h y hy
  · exact k y hy
theorem Bytes.at {xs : List Int} (h : Bytes xs) (i : Nat) (hi : i < xs.length) : 0 ≤ xs[i] ∧ xs[i] < 256 := h _ (List.getElem_mem hi)

theorem pow_pos (k : Nat) : (0 : Int) < 256 ^ k := Int.pow_pos (by omega)

theorem worth_bd : ∀ (xs : List Int), Bytes xs → 0 ≤ worth xs ∧ worth xs < 256 ^ xs.length
  | [], _ => by simp [worth]
  | x :: r, h => by
    have ih := worth_bd r h.tail
    have hx := h.head
    have e : (256 : Int) ^ (x :: r).length = 256 * 256 ^ r.length := by rw [List.length_cons, Int.pow_succ, Int.mul_comm]
    rw [e]
    simp only [worth]
    omega

theorem worth_append : ∀ (xs ys : List Int), worth (xs ++ ys) = worth xs + 256 ^ xs.length * worth ys
  | [], ys => by simp [worth]
  | x :: r, ys => by
    rw [List.cons_append, worth, worth_append r ys, worth, List.length_cons, Int.pow_succ]
    rw [Int.mul_add, Int.add_assoc, ← Int.mul_assoc, Int.mul_comm 256 (256 ^ r.length)]

theorem worth_take_succ (xs : List Int) (k : Nat) (hk : k < xs.length) : worth (xs.take (k + 1)) = worth (xs.take k) + xs[k] * 256 ^ k := by
  rw [List.take_succ_eq_append_getElem hk, worth_append, List.length_take, Nat.min_eq_left (by omega)]
  simp only [worth]
  rw [Int.mul_zero, Int.add_zero, Int.mul_comm]

theorem or_step (z x : Int) (k : Nat) (hk : k < 8) (hz0 : 0 ≤ z) (hz1 : z < 256 ^ k) (hx0 : 0 ≤ x) (hx1 : x < 256) :
    bits .or .u64 z (IntKind.u64.wrap (x * 2 ^ (8 * k))) = z + x * 256 ^ k := by
  have e256 : (256 : Int) ^ k = 2 ^ (8 * k) := by rw [Int.pow_mul]; rfl
  have hb : x * 2 ^ (8 * k) < 18446744073709551616 := by
    have h8 : k = 0 ∨ k = 1 ∨ k = 2 ∨ k = 3 ∨ k = 4 ∨ k = 5 ∨ k = 6 ∨ k = 7 := by omega
    rcases h8 with rfl | rfl | rfl | rfl | rfl | rfl | rfl | rfl <;> simp <;> omega
  have hp : (0 : Int) < 2 ^ (8 * k) := by rw [← e256]; exact pow_pos k
  have h0 : 0 ≤ x * 2 ^ (8 * k) := Int.mul_nonneg hx0 (Int.le_of_lt hp)
  have e2 : IntKind.u64.wrap (x * 2 ^ (8 * k)) = x * 2 ^ (8 * k) := by rw [IntKind.wrap_u64]; omega
  rw [e2, e256]
  rw [e256] at hz1
  have hz2 : z < 18446744073709551616 := by
    have h8 : k = 0 ∨ k = 1 ∨ k = 2 ∨ k = 3 ∨ k = 4 ∨ k = 5 ∨ k = 6 ∨ k = 7 := by omega
    rcases h8 with rfl | rfl | rfl | rfl | rfl | rfl | rfl | rfl <;> simp at hz1 <;> omega
  rw [u64_or z _ hz0 hz2 h0 hb]
  obtain ⟨zn, rfl⟩ := Int.eq_ofNat_of_zero_le hz0
  obtain ⟨xn, rfl⟩ := Int.eq_ofNat_of_zero_le hx0
  have e3 : (xn : Int) * 2 ^ (8 * k) = ((xn * 2 ^ (8 * k) : Nat) : Int) := by simp
  have hz3 : zn < 2 ^ (8 * k) := by
    have : (zn : Int) < ((2 ^ (8 * k) : Nat) : Int) := by simpa using hz1
    omega
  rw [e3, Int.toNat_natCast, Int.toNat_natCast, Nat.or_comm, nat_join (8 * k) (xn * 2 ^ (8 * k)) zn (by simp) hz3]
  omega

theorem digits_length : ∀ (k : Nat) (n : Int), (digits k n).length = k
  | 0, _ => rfl
  | k + 1, n => by simp [digits, digits_length k]

theorem digits_bytes : ∀ (k : Nat) (n : Int), Bytes (digits k n)
  | 0, _ => Bytes.nil
  | k + 1, n => Bytes.cons (by omega) (digits_bytes k _)

theorem digits_get : ∀ (k : Nat) (n : Int) (i : Nat) (hi : i < (digits k n).length), (digits k n)[i] = n / 256 ^ i % 256
  | 0, _, i, hi => by simp [digits] at hi
  | k + 1, n, 0, _ => by simp [digits]
  | k + 1, n, i + 1, hi => by
    have hi' : i < (digits k (n / 256)).length := by simpa [digits] using hi
    have ih := digits_get k (n / 256) i hi'
    simp only [digits, List.getElem_cons_succ]
    rw [ih, Int.pow_succ, Int.mul_comm, ← Int.ediv_ediv_of_nonneg (by omega)]

theorem worth_digits : ∀ (k : Nat) (n : Int), worth (digits k n) = n % 256 ^ k
  | 0, n => by simp [digits, worth, Int.emod_one]
  | k + 1, n => by
    rw [digits, worth, worth_digits k, Int.pow_succ, Int.mul_comm (256 ^ k) 256]
    have h := Int.emod_add_mul_ediv n 256
    have h2 := Int.emod_add_mul_ediv (n / 256) (256 ^ k)
    have hp := pow_pos k
    have hb := Int.emod_nonneg (n / 256) (Int.ne_of_gt hp)
    have hc := Int.emod_lt_of_pos (n / 256) hp
    have e : n = (n % 256 + 256 * (n / 256 % 256 ^ k)) + 256 * 256 ^ k * (n / 256 / 256 ^ k) := by
      rw [Int.mul_assoc, Int.add_assoc, ← Int.mul_add, h2, h]
    have hr : 0 ≤ n % 256 ∧ n % 256 < 256 := by omega
    have hl : (n % 256 + 256 * (n / 256 % 256 ^ k)) % (256 * 256 ^ k) = n % 256 + 256 * (n / 256 % 256 ^ k) := Int.emod_eq_of_lt (by omega) (by omega)
    conv => rhs; rw [e, Int.add_mul_emod_self_left, hl]

theorem digits_worth : ∀ (xs : List Int), Bytes xs → digits xs.length (worth xs) = xs
  | [], _ => rfl
  | x :: r, h => by
    have hx := h.head
    rw [List.length_cons, digits, worth]
    have e1 : (x + 256 * worth r) % 256 = x := by omega
    have e2 : (x + 256 * worth r) / 256 = worth r := by omega
    rw [e1, e2, digits_worth r h.tail]

theorem pow256 (k : Nat) : (256 : Int) ^ k = 2 ^ (8 * k) := by rw [Int.pow_mul]; rfl

/-- what Put answers: the bytes and the error's number -/
def putS (n s : Int) : List Int × Int :=
  if s < 1 ∨ 8 < s then ([], 2) else if n / 256 ^ s.toNat ≠ 0 then ([], 10) else (digits s.toNat n, 0)

theorem wide_yes (n : Int) (k : Nat) (h : n / 256 ^ k ≠ 0) : (n / 2 ^ (8 * k) != 0) = true := by rw [← pow256]; simpa using h
theorem wide_no (n : Int) (k : Nat) (h : n / 256 ^ k = 0) : (n / 2 ^ (8 * k) != 0) = false := by rw [← pow256, h]; rfl

/-- the digits so far, and zeros behind them -/
def filled (D : List Int) (j : Nat) : List Int := D.take j ++ List.replicate (D.length - j) 0

theorem filled_length (D : List Int) (j : Nat) (h : j ≤ D.length) : (filled D j).length = D.length := by simp [filled]; omega
theorem filled_zero (D : List Int) : filled D 0 = List.replicate D.length 0 := by simp [filled]
theorem filled_all (D : List Int) (j : Nat) (h : D.length ≤ j) : filled D j = D := by
  unfold filled
  rw [List.take_of_length_le h, Nat.sub_eq_zero_of_le h]
  simp
theorem filled_step (D : List Int) (j : Nat) (h : j < D.length) : (filled D j).set j D[j] = filled D (j + 1) := by
  unfold filled
  have e : D.length - j = (D.length - (j + 1)) + 1 := by omega
  rw [e, List.replicate_succ, List.set_append_right _ _ (by simp; omega), List.take_succ_eq_append_getElem h]
  have e2 : j - (D.take j).length = 0 := by simp; omega
  rw [e2, List.set_cons_zero, List.append_assoc]
  rfl

theorem byte_of (n : Int) (k j : Nat) (h : j < (digits k n).length) : n / 2 ^ (8 * j) % 256 = (digits k n)[j] := by
  rw [digits_get, pow256]

/-- what Take answers: the number, the rest, the error's number -/
def takeS (xs : List Int) (s : Int) : Int × List Int × Int :=
  if s < 1 ∨ 8 < s then (0, [], 2) else if (xs.length : Int) < s then (0, [], 11) else (worth (xs.take s.toNat), xs.drop s.toNat, 0)

/-- what Pad answers: the bytes and the error's number -/
def padS (xs : List Int) (s : Int) : List Int × Int :=
  if s < 0 ∨ 64 < s then ([], 2) else if s < (xs.length : Int) then ([], 10) else (xs ++ List.replicate (s.toNat - xs.length) 0, 0)

/-- are all 0? -/
def blankS (xs : List Int) : Bool := xs.all (· == 0)

theorem blank_no (xs : List Int) (k : Nat) (hk : k < xs.length) (h : (xs[k] != 0) = true) : blankS xs = false := by
  unfold blankS
  rw [List.all_eq_false]
  exact ⟨xs[k], List.getElem_mem hk, by simpa using h⟩
theorem blank_step (xs : List Int) (k : Nat) (hk : k < xs.length) (hb : blankS (xs.take k) = true) (h : (xs[k] != 0) = false) : blankS (xs.take (k + 1)) = true := by
  unfold blankS at *
  rw [List.take_succ_eq_append_getElem hk, List.all_append, hb]
  simpa using h

theorem flat_step {α : Type} (ls : List (List α)) (k : Nat) (hk : k < ls.length) : (ls.take (k + 1)).flatten = (ls.take k).flatten ++ ls[k] := by
  rw [List.take_succ_eq_append_getElem hk, List.flatten_append, List.flatten_cons, List.flatten_nil, List.append_nil]
theorem flat_len {α : Type} (ls : List (List α)) (k : Nat) : (ls.take k).flatten.length ≤ ls.flatten.length := by
  conv => rhs; rw [← List.take_append_drop k ls]
  rw [List.flatten_append, List.length_append]
  omega
theorem flat_all {α : Type} (ls : List (List α)) (k : Nat) (hk : ls.length ≤ k) : (ls.take k).flatten = ls.flatten := by rw [List.take_of_length_le hk]
/-- how many the first k lists hold -/
def flen {α : Type} (ls : List (List α)) (k : Nat) : Nat := (ls.take k).flatten.length
theorem flen_le {α : Type} (ls : List (List α)) (k : Nat) : flen ls k ≤ ls.flatten.length := flat_len ls k
theorem flen_step {α : Type} (ls : List (List α)) (k : Nat) (hk : k < ls.length) : flen ls (k + 1) = flen ls k + ls[k].length := by
  unfold flen; rw [flat_step ls k hk, List.length_append]
theorem flen_all {α : Type} (ls : List (List α)) (k : Nat) (hk : ls.length ≤ k) : flen ls k = ls.flatten.length := by unfold flen; rw [flat_all ls k hk]
theorem Bytes.flatten {ls : List (List Int)} (h : ∀ l ∈ ls, Bytes l) : Bytes ls.flatten := fun x hx => by
  obtain ⟨l, hl, hx⟩ := List.mem_flatten.1 hx
  exact h l hl x hx

/-- the numbers of these sizes, one behind the other -/
def nums : List Int → List Nat → List Int
  | _, [] => []
  | xs, z :: r => worth (xs.take z) :: nums (xs.drop z) r

theorem nums_length : ∀ (xs : List Int) (zs : List Nat), (nums xs zs).length = zs.length
  | _, [] => rfl
  | xs, z :: r => by simp [nums, nums_length]

/-- where the k-th of them begins -/
def tot (zs : List Nat) (k : Nat) : Nat := (zs.take k).sum
theorem tot_zero (zs : List Nat) : tot zs 0 = 0 := rfl
theorem tot_step (zs : List Nat) (k : Nat) (hk : k < zs.length) : tot zs (k + 1) = tot zs k + zs[k] := by
  unfold tot; rw [List.take_succ_eq_append_getElem hk, List.sum_append, List.sum_cons, List.sum_nil, Nat.add_zero]
theorem tot_all (zs : List Nat) (k : Nat) (hk : zs.length ≤ k) : tot zs k = zs.sum := by unfold tot; rw [List.take_of_length_le hk]
theorem tot_le (zs : List Nat) (k : Nat) : tot zs k ≤ zs.sum := by
  unfold tot
  conv => rhs; rw [← List.take_append_drop k zs]
  rw [List.sum_append]
  omega
theorem tot_bd : ∀ (zs : List Nat), (∀ z ∈ zs, z ≤ 8) → zs.sum ≤ 8 * zs.length
  | [], _ => by simp
  | z :: r, h => by
    have h1 := h z List.mem_cons_self
    have h2 := tot_bd r (fun y hy => h y (List.mem_cons_of_mem _ hy))
    simp only [List.sum_cons, List.length_cons]
    omega

theorem nums_get : ∀ (xs : List Int) (zs : List Nat) (k : Nat) (h : k < (nums xs zs).length) (h2 : k < zs.length), (nums xs zs)[k] = worth ((xs.drop (tot zs k)).take zs[k])
  | _, [], k, h, _ => by simp [nums] at h
  | xs, z :: r, 0, _, _ => by simp [nums, tot]
  | xs, z :: r, k + 1, h, h2 => by
    have h' : k < (nums (xs.drop z) r).length := by simpa [nums] using h
    have ih := nums_get (xs.drop z) r k h' (by simpa using h2)
    simp only [nums, List.getElem_cons_succ]
    rw [ih, List.drop_drop]
    rfl

/-- what Fields answers -/
def fieldsS (xs : List Int) (ss : List Int) : List Int × List Int × Int :=
  if ∃ s ∈ ss, s < 1 ∨ 8 < s then ([], [], 2)
  else if xs.length < (ss.map Int.toNat).sum then ([], [], 11)
  else (nums xs (ss.map Int.toNat), xs.drop (ss.map Int.toNat).sum, 0)

theorem toNats (ss : List Int) (h : ∀ s ∈ ss, ¬ (s < 1 ∨ 8 < s)) : (ss.map Int.toNat).map (fun z : Nat => (z : Int)) = ss := by
  rw [List.map_map]
  conv => rhs; rw [← List.map_id ss]
  apply List.map_congr_left
  intro s hs
  have := h s hs
  simp only [Function.comp_apply, id_eq]
  omega

end Go.Proofs.YtefnkjajjidfaaaGreatDoor
