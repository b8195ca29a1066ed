/-
  Plain mathematics of layer 2 (sum): halvings, pushes, products, sums of texts. Nothing of the dump.
-/
namespace Go.Proofs.YtefnkjajjidfaaaGreatDoor

/-- one halving: the lowest bit falls out, and comes in again by the polynomial -/
def hv (x : Nat) : Nat := x / 2 ^^^ (if x % 2 = 1 then 3988292384 else 0)

/-- so many halvings -/
def hn : Nat → Nat → Nat
  | 0, x => x
  | n + 1, x => hn n (hv x)

theorem hv_zero : hv 0 = 0 := rfl
theorem hv_xor (a b : Nat) : hv (a ^^^ b) = hv a ^^^ hv b := by
  unfold hv
  rw [Nat.xor_div_two]
  have hs := Nat.testBit_xor (x := a) (y := b) (i := 0)
  simp only [Nat.testBit_zero] at hs
  by_cases ha : a % 2 = 1 <;> by_cases hb : b % 2 = 1 <;> simp only [ha, hb, decide_true, decide_false, Bool.xor_self, Bool.xor_false, Bool.false_xor, decide_eq_true_eq, decide_eq_false_iff_not] at hs <;> simp only [ha, hb, hs, if_true, if_false, Nat.xor_zero]
  · rw [Nat.xor_assoc, Nat.xor_comm 3988292384, Nat.xor_assoc, Nat.xor_self, Nat.xor_zero]
  · rw [Nat.xor_assoc, Nat.xor_assoc, Nat.xor_comm 3988292384]
  · rw [Nat.xor_assoc]

theorem hv_lt (x : Nat) (h : x < 4294967296) : hv x < 4294967296 := by
  unfold hv
  refine Nat.xor_lt_two_pow (n := 32) (by omega) ?_
  split <;> omega

theorem hv_even (y : Nat) : hv (2 * y) = y := by
  unfold hv
  have : 2 * y % 2 = 0 := by omega
  simp [this]

theorem xor_zero_eq (a b : Nat) (h : a ^^^ b = 0) : a = b := by
  have e : (a ^^^ b) ^^^ b = a := by rw [Nat.xor_assoc, Nat.xor_self, Nat.xor_zero]
  rw [← e, h, Nat.zero_xor]
theorem hv_ne (x : Nat) (h : x < 4294967296) (hz : hv x = 0) : x = 0 := by
  unfold hv at hz
  have h1 := xor_zero_eq _ _ hz
  split at h1 <;> omega

theorem hn_zero (n : Nat) : hn n 0 = 0 := by
  induction n with
  | zero => rfl
  | succ n ih => exact ih
theorem hn_xor (n a b : Nat) : hn n (a ^^^ b) = hn n a ^^^ hn n b := by
  induction n generalizing a b with
  | zero => rfl
  | succ n ih => simp only [hn, hv_xor, ih]
theorem hn_add (m n x : Nat) : hn (m + n) x = hn n (hn m x) := by
  induction m generalizing x with
  | zero => simp [hn]
  | succ m ih => rw [Nat.succ_add]; simp only [hn, ih]
theorem hn_lt (n x : Nat) (h : x < 4294967296) : hn n x < 4294967296 := by
  induction n generalizing x with
  | zero => exact h
  | succ n ih => exact ih _ (hv_lt x h)
theorem hn_ne (n x : Nat) (h : x < 4294967296) (hz : hn n x = 0) : x = 0 := by
  induction n generalizing x with
  | zero => exact hz
  | succ n ih => exact hv_ne x h (ih _ (hv_lt x h) hz)
theorem hn_pow (n y : Nat) : hn n (2 ^ n * y) = y := by
  induction n generalizing y with
  | zero => simp [hn]
  | succ n ih =>
    rw [hn, Nat.pow_succ, Nat.mul_comm (2 ^ n) 2, Nat.mul_assoc, hv_even, ih]

theorem xor_lt (a b : Nat) (ha : a < 4294967296) (hb : b < 4294967296) : a ^^^ b < 4294967296 := Nat.xor_lt_two_pow (n := 32) ha hb

theorem split_xor (k x : Nat) : (2 ^ k * (x / 2 ^ k)) ^^^ (x % 2 ^ k) = x := by
  apply Nat.eq_of_testBit_eq
  intro i
  rw [Nat.testBit_xor, Nat.testBit_mod_two_pow, Nat.testBit_two_pow_mul, Nat.testBit_div_two_pow]
  by_cases h : k ≤ i
  · have h2 : ¬ i < k := by omega
    simp [h, h2, Nat.sub_add_cancel h]
  · have h2 : i < k := by omega
    simp [h, h2]

theorem hn_split (k x : Nat) : hn k x = x / 2 ^ k ^^^ hn k (x % 2 ^ k) := by
  conv => lhs; rw [← split_xor k x]
  rw [hn_xor, hn_pow]

/-- the sixteen numbers -/
def table : List Nat := [0x00000000, 0x1db71064, 0x3b6e20c8, 0x26d930ac, 0x76dc4190, 0x6b6b51f4, 0x4db26158, 0x5005713c, 0xedb88320, 0xf00f9344, 0xd6d6a3e8, 0xcb61b38c, 0x9b64c2b0, 0x86d3d2d4, 0xa00ae278, 0xbdbdf21c]
theorem table_hn : ∀ r, r < 16 → table.getD r 0 = hn 4 r := by decide
theorem hn_four (x : Nat) : x / 16 ^^^ table.getD (x % 16) 0 = hn 4 x := by
  rw [hn_split 4 x, table_hn _ (Nat.mod_lt _ (by omega))]

/-- the power 0 -/
def one : Nat := 2147483648
theorem hn_one : ∀ i, i < 32 → hn i one = 2 ^ (31 - i) := by decide
theorem hn_eight_one : hn 8 one = 8388608 := by decide

/-- the state behind bytes -/
def st (x : Nat) : List Int → Nat
  | [] => x
  | c :: r => st (hn 8 (x ^^^ c.toNat)) r

theorem st_append (x : Nat) (a b : List Int) : st x (a ++ b) = st (st x a) b := by
  induction a generalizing x with
  | nil => rfl
  | cons c r ih => exact ih _
theorem st_xor (x d : Nat) (a : List Int) : st (x ^^^ d) a = st x a ^^^ hn (8 * a.length) d := by
  induction a generalizing x d with
  | nil => rfl
  | cons c r ih =>
    have e : hn 8 ((x ^^^ d) ^^^ c.toNat) = hn 8 (x ^^^ c.toNat) ^^^ hn 8 d := by
      rw [← hn_xor]; congr 1; rw [Nat.xor_assoc, Nat.xor_assoc, Nat.xor_comm d]
    rw [st, e, ih, ← hn_add, List.length_cons]
    rw [st, show 8 + 8 * r.length = 8 * (r.length + 1) by omega]
theorem st_lt (x : Nat) (a : List Int) (hx : x < 4294967296) (ha : ∀ c ∈ a, 0 ≤ c ∧ c < 256) : st x a < 4294967296 := by
  induction a generalizing x with
  | nil => exact hx
  | cons c r ih =>
    refine ih _ (hn_lt _ _ (xor_lt _ _ hx ?_)) (fun y hy => ha y (List.mem_cons_of_mem _ hy))
    have := ha c List.mem_cons_self
    omega

/-- the sum of a text -/
def crc (a : List Int) : Nat := st 4294967295 a ^^^ 4294967295
theorem crc_lt (a : List Int) (ha : ∀ c ∈ a, 0 ≤ c ∧ c < 256) : crc a < 4294967296 := xor_lt _ _ (st_lt _ a (by omega) ha) (by omega)
theorem crc_st (a : List Int) : st 4294967295 a = 4294967295 ^^^ crc a := by
  unfold crc; rw [Nat.xor_comm (st _ _), ← Nat.xor_assoc, Nat.xor_self, Nat.zero_xor]
/-- two texts side by side -/
theorem crc_append (a b : List Int) : crc (a ++ b) = hn (8 * b.length) (crc a) ^^^ crc b := by
  unfold crc
  rw [st_append]
  conv => lhs; rw [crc_st a, st_xor]
  unfold crc
  rw [Nat.xor_comm (st 4294967295 b), Nat.xor_assoc]

/-- a byte turned by d -/
theorem crc_turn (a : List Int) (c : Int) (b : List Int) (d : Nat) (c' : Int) (h : c'.toNat = c.toNat ^^^ d) :
    crc (a ++ c' :: b) = crc (a ++ c :: b) ^^^ hn (8 * b.length) (hn 8 d) := by
  unfold crc
  rw [st_append, st_append, st, st, h, ← Nat.xor_assoc, hn_xor, st_xor]
  rw [Nat.xor_assoc, Nat.xor_assoc, Nat.xor_comm 4294967295]

/-- four bytes side by side -/
theorem add_xor (k a b : Nat) (hb : b < 2 ^ k) : b + 2 ^ k * a = b ^^^ 2 ^ k * a := by
  have h := split_xor k (b + 2 ^ k * a)
  rw [Nat.add_mul_div_left _ _ (Nat.two_pow_pos k), Nat.add_mul_mod_self_left, Nat.div_eq_of_lt hb, Nat.mod_eq_of_lt hb, Nat.zero_add] at h
  rw [Nat.xor_comm]
  exact h.symm
theorem hn_byte (x y : Nat) : hn 8 x ^^^ y = hn 8 (x ^^^ 256 * y) := by
  rw [hn_xor, show (256 : Nat) = 2 ^ 8 from rfl, hn_pow]
/-- a word's four bytes -/
def word (a b c d : Nat) : Nat := a + 256 * (b + 256 * (c + 256 * d))
theorem word_xor (a b c d : Nat) (ha : a < 256) (hb : b < 256) (hc : c < 256) : word a b c d = a ^^^ 256 * (b ^^^ 256 * (c ^^^ 256 * d)) := by
  unfold word
  rw [show (256 : Nat) = 2 ^ 8 from rfl] at *
  rw [← add_xor 8 d c hc, ← add_xor 8 _ b hb, ← add_xor 8 _ a ha]
theorem xor_mul (k a b : Nat) : 2 ^ k * (a ^^^ b) = 2 ^ k * a ^^^ 2 ^ k * b := by
  apply Nat.eq_of_testBit_eq
  intro i
  simp only [Nat.testBit_xor, Nat.testBit_two_pow_mul]
  by_cases h : k ≤ i <;> simp [h]
theorem four (x a b c d : Nat) (ha : a < 256) (hb : b < 256) (hc : c < 256) :
    hn 8 (hn 8 (hn 8 (hn 8 (x ^^^ a) ^^^ b) ^^^ c) ^^^ d) = hn 32 (x ^^^ word a b c d) := by
  have e : ∀ z, 256 * z = 2 ^ 8 * z := fun z => rfl
  have m : ∀ p q, 256 * (p ^^^ q) = 256 * p ^^^ 256 * q := fun p q => by rw [e, e, e, xor_mul]
  rw [word_xor a b c d ha hb hc]
  simp only [hn_byte]
  rw [show (32 : Nat) = 8 + (8 + (8 + 8)) from rfl, hn_add, hn_add, hn_add]
  simp only [m, Nat.xor_assoc]
theorem st_four (x : Nat) (a b c d : Int) (ha : a.toNat < 256) (hb : b.toNat < 256) (hc : c.toNat < 256) (r : List Int) :
    st x (a :: b :: c :: d :: r) = st (hn 32 (x ^^^ word a.toNat b.toNat c.toNat d.toNat)) r := by
  simp only [st]; rw [four _ _ _ _ _ ha hb hc]

/-- the sum behind the text -/
theorem residue_num : hn 32 4294967295 ^^^ 4294967295 = 558161692 := by decide

/-- the lowest i + 1 bits by the lowest i and the one above -/
theorem low_step (x i : Nat) : x % 2 ^ (i + 1) = (x % 2 ^ i) ^^^ (if x / 2 ^ i % 2 = 1 then 2 ^ i else 0) := by
  have h := split_xor i (x % 2 ^ (i + 1))
  have e1 : x % 2 ^ (i + 1) % 2 ^ i = x % 2 ^ i := Nat.mod_mod_of_dvd x (Nat.pow_dvd_pow 2 (by omega))
  have e2 : x % 2 ^ (i + 1) / 2 ^ i = x / 2 ^ i % 2 := by rw [Nat.pow_succ, Nat.mod_mul_right_div_self]
  rw [e1, e2, Nat.xor_comm] at h
  rw [← h]
  congr 1
  rcases Nat.mod_two_eq_zero_or_one (x / 2 ^ i) with h2 | h2 <;> simp [h2]

theorem top_step (r j : Nat) (h : r < 2 ^ (j + 1)) : r = (if r / 2 ^ j = 1 then 2 ^ j else 0) ^^^ (r % 2 ^ j) := by
  have hl := low_step r j
  rw [Nat.mod_eq_of_lt h] at hl
  have h2 : r / 2 ^ j < 2 := by rw [Nat.div_lt_iff_lt_mul (Nat.two_pow_pos j), Nat.mul_comm]; rw [Nat.pow_succ] at h; exact h
  rw [Nat.mod_eq_of_lt h2, Nat.xor_comm] at hl
  exact hl

/-- how a product by 'hn k one' stands: the product so far, what is left of the first number, the second one -/
def Tim (k a prod ai bi : Nat) : Prop := ∃ i r p, i ≤ 32 ∧ r < 2 ^ (32 - i) ∧ ai = r * 2 ^ i ∧ p ^^^ r = a ∧ p < 4294967296 ∧ prod = hn k p ∧ bi = hn (k + i) one

theorem Tim.start (k a : Nat) (ha : a < 4294967296) : Tim k a 0 a (hn k one) := ⟨0, a, 0, by omega, by simpa using ha, by simp, by simp, by omega, (hn_zero k).symm, rfl⟩
theorem Tim.stop {k a prod bi : Nat} (h : Tim k a prod 0 bi) : prod = hn k a := by
  obtain ⟨i, r, p, hi, hr, ha, hp, _, rfl, rfl⟩ := h
  have hr0 : r = 0 := by
    rcases Nat.mul_eq_zero.1 ha.symm with h | h
    · exact h
    · exact absurd h (Nat.ne_of_gt (Nat.two_pow_pos i))
  subst hr0
  rw [Nat.xor_zero] at hp
  rw [hp]
theorem Tim.lt {k a prod ai bi : Nat} (h : Tim k a prod ai bi) : prod < 4294967296 ∧ ai < 4294967296 ∧ bi < 4294967296 := by
  obtain ⟨i, r, p, hi, hr, ha, hp, hpl, rfl, rfl⟩ := h
  refine ⟨hn_lt _ _ hpl, ?_, hn_lt _ _ (by decide)⟩
  rw [ha]
  have : r * 2 ^ i < 2 ^ (32 - i) * 2 ^ i := Nat.mul_lt_mul_of_pos_right hr (Nat.two_pow_pos i)
  rw [← Nat.pow_add, Nat.sub_add_cancel hi] at this
  exact this

theorem Tim.next {k a prod ai bi : Nat} (h : Tim k a prod ai bi) (h0 : ai ≠ 0) :
    Tim k a (if ai / 2147483648 = 1 then prod ^^^ bi else prod) (ai * 2 % 4294967296) (hv bi) := by
  obtain ⟨i, r, p, hi, hr, ha, hp, hpl, rfl, rfl⟩ := h
  have hi2 : i < 32 := by
    rcases Nat.lt_or_ge i 32 with h | h
    · exact h
    · have : i = 32 := by omega
      subst this
      simp at hr
      simp [hr] at ha
      exact absurd ha h0
  have hj : 32 - i = (31 - i) + 1 := by omega
  rw [hj] at hr
  have hpow : (2147483648 : Nat) = 2 ^ (31 - i) * 2 ^ i := by rw [← Nat.pow_add, Nat.sub_add_cancel (by omega)]
  have hd : ai / 2147483648 = r / 2 ^ (31 - i) := by
    rw [ha, hpow, Nat.mul_div_mul_right _ _ (Nat.two_pow_pos i)]
  have ht := top_step r (31 - i) hr
  refine ⟨i + 1, r % 2 ^ (31 - i), p ^^^ (if r / 2 ^ (31 - i) = 1 then 2 ^ (31 - i) else 0), by omega, ?_, ?_, ?_, ?_, ?_, ?_⟩
  · rw [show 32 - (i + 1) = 31 - i by omega]; exact Nat.mod_lt _ (Nat.two_pow_pos _)
  · rw [ha, show (4294967296 : Nat) = 2 ^ (31 - i) * 2 ^ (i + 1) by rw [← Nat.pow_add, show 31 - i + (i + 1) = 32 by omega], Nat.mul_assoc, ← Nat.pow_succ, Nat.mul_mod_mul_right]
  · rw [Nat.xor_assoc, ← ht]; exact hp
  · refine xor_lt _ _ hpl ?_
    split
    · exact Nat.lt_of_le_of_lt (Nat.pow_le_pow_right (by omega) (show 31 - i ≤ 31 by omega)) (by decide)
    · omega
  · rw [hd, hn_xor]
    split
    · congr 1
      rw [Nat.add_comm, hn_add, hn_one i hi2]
    · rw [hn_zero, Nat.xor_zero]
  · rw [← Nat.add_assoc, hn_add (k + i) 1]; rfl

/-- how many doublings until nothing is left, n of them looked at -/
def cnt : Nat → Nat → Nat
  | 0, _ => 0
  | n + 1, a => (if a % 4294967296 = 0 then 0 else 1) + cnt n (a * 2)
theorem cnt_last (n a : Nat) : cnt (n + 1) a = cnt n a + (if a * 2 ^ n % 4294967296 = 0 then 0 else 1) := by
  induction n generalizing a with
  | zero => simp [cnt]
  | succ n ih => rw [cnt, ih, cnt, Nat.pow_succ, Nat.mul_assoc, Nat.mul_comm 2 (2 ^ n), Nat.add_assoc]
theorem cnt_mod (n a b : Nat) (h : a % 4294967296 = b % 4294967296) : cnt n a = cnt n b := by
  induction n generalizing a b with
  | zero => rfl
  | succ n ih => rw [cnt, cnt, h, ih (a * 2) (b * 2) (by omega)]
theorem cnt_less (a : Nat) (h : a % 4294967296 ≠ 0) : cnt 33 (a * 2 % 4294967296) < cnt 33 a := by
  rw [cnt_mod 33 (a * 2 % 4294967296) (a * 2) (by omega), cnt_last 32 (a * 2)]
  have e : a * 2 * 2 ^ 32 % 4294967296 = 0 := by omega
  rw [if_pos e]
  conv => rhs; rw [cnt, if_neg h]
  omega

/-- how a push by many zeros stands -/
def Zer (x0 n0 k x n : Nat) : Prop := x < 4294967296 ∧ hn (k * n) x = hn (8 * n0) x0
theorem Zer.start (x n : Nat) (h : x < 4294967296) : Zer x n 8 x n := ⟨h, rfl⟩
theorem Zer.stop {x0 n0 k x : Nat} (h : Zer x0 n0 k x 0) : x = hn (8 * n0) x0 := by
  have := h.2
  rw [Nat.mul_zero] at this
  exact this
theorem Zer.odd {x0 n0 k x n : Nat} (h : Zer x0 n0 k x n) (ho : n % 2 = 1) : Zer x0 n0 (k + k) (hn k x) (n / 2) := by
  refine ⟨hn_lt _ _ h.1, ?_⟩
  rw [← hn_add, ← h.2]
  congr 1
  conv => rhs; rw [show n = 2 * (n / 2) + 1 by omega]
  rw [Nat.mul_add, Nat.mul_one, ← Nat.mul_assoc, Nat.mul_two, Nat.add_comm]
theorem Zer.even {x0 n0 k x n : Nat} (h : Zer x0 n0 k x n) (he : n % 2 = 0) : Zer x0 n0 (k + k) x (n / 2) := by
  refine ⟨h.1, ?_⟩
  rw [← h.2]
  congr 1
  conv => rhs; rw [show n = 2 * (n / 2) by omega]
  rw [← Nat.mul_assoc, Nat.mul_two]
theorem hn_sq (k : Nat) : hn k (hn k one) = hn (k + k) one := (hn_add k k one).symm
end Go.Proofs.YtefnkjajjidfaaaGreatDoor
