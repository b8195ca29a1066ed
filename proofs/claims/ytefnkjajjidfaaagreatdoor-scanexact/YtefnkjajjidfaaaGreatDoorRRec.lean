/-
  Plain mathematics of layer 6 (record): a record's bytes, there and back; bytes that are turned. Nothing of the dump.
-/
import Derived.Test.YtefnkjajjidfaaaGreatDoorCrc
import Derived.Test.YtefnkjajjidfaaaGreatDoorMath
namespace Go.Proofs.YtefnkjajjidfaaaGreatDoor.R

/-- a record -/
structure Rec where
  kind : Int
  pos : Int
  block : Int
  val : List Int
  images : Int

/-- so many zeros -/
def zs (n : Nat) : List Int := List.replicate n 0
theorem zs_len (n : Nat) : (zs n).length = n := by simp [zs]
theorem zs_bytes (n : Nat) : Bytes (zs n) := fun x hx => by
  rw [List.eq_of_mem_replicate hx]; omega

/-- the record of nothing -/
def rec0 : Rec := ⟨0, 0, 0, zs 32, 0⟩

/-- what a record of the program's type is -/
structure Rec.Wf (r : Rec) : Prop where
  k0 : -9223372036854775808 ≤ r.kind
  k1 : r.kind ≤ 9223372036854775807
  p0 : 0 ≤ r.pos
  p1 : r.pos ≤ 18446744073709551615
  b0 : -9223372036854775808 ≤ r.block
  b1 : r.block ≤ 9223372036854775807
  i0 : -9223372036854775808 ≤ r.images
  i1 : r.images ≤ 9223372036854775807
  len : r.val.length = 32
  byte : Bytes r.val
theorem rec0_wf : rec0.Wf := ⟨by decide, by decide, by decide, by decide, by decide, by decide, by decide, by decide, by decide, zs_bytes 32⟩

/-- all but the position are an image's; a commit's -/
def isImage (r : Rec) : Prop := r.kind = 1 ∧ 0 ≤ r.block ∧ r.block < 64 ∧ r.images = 0
def isCommit (r : Rec) : Prop := r.kind = 2 ∧ 0 ≤ r.images ∧ r.images ≤ 16 ∧ r.block = 0 ∧ r.val = zs 32
def imageB (r : Rec) : Bool := r.kind == 1 && (decide (0 ≤ r.block) && (decide (r.block < 64) && r.images == 0))
def commitB (r : Rec) : Bool := r.kind == 2 && (decide (0 ≤ r.images) && (decide (r.images ≤ 16) && (r.block == 0 && decide (r.val = zs 32))))
theorem imageB_iff (r : Rec) : imageB r = true ↔ isImage r := by simp [imageB, isImage]
theorem commitB_iff (r : Rec) : commitB r = true ↔ isCommit r := by simp [commitB, isCommit]
/-- a record that may be -/
def may (r : Rec) : Bool := decide (r.pos ≤ 4611686018427387904) && (imageB r || commitB r)
theorem may_iff (r : Rec) : may r = true ↔ r.pos ≤ 4611686018427387904 ∧ (isImage r ∨ isCommit r) := by
  simp [may, ← imageB_iff, ← commitB_iff]
def chk (r : Rec) : Int := if may r then 0 else 60

/-- the number beside the position -/
def numS (r : Rec) : Int := if r.kind = 1 then r.block else r.images
theorem numS_bd (r : Rec) (h : may r = true) : 0 ≤ numS r ∧ numS r < 64 := by
  rw [may_iff] at h
  unfold numS
  rcases h.2 with h2 | h2
  · rw [if_pos h2.1]; exact ⟨h2.2.1, h2.2.2.1⟩
  · have := h2.1
    rw [if_neg (by omega)]; have := h2.2.1; have := h2.2.2.1; omega

/-- the first sixteen bytes and the value -/
def head (r : Rec) : List Int := [87] ++ [r.kind] ++ [0, 0] ++ digits 8 r.pos ++ digits 4 (numS r) ++ r.val
def body (r : Rec) : List Int := head r ++ zs 12
def encS (r : Rec) : List Int := body r ++ digits 4 (crc (body r) : Nat)

theorem head_len (r : Rec) (h : r.val.length = 32) : (head r).length = 48 := by simp [head, digits_length, h]
theorem body_len (r : Rec) (h : r.val.length = 32) : (body r).length = 60 := by simp [body, head_len r h, zs_len]
theorem encS_len (r : Rec) (h : r.val.length = 32) : (encS r).length = 64 := by simp [encS, body_len r h, digits_length]
theorem may_kind {r : Rec} (h : may r = true) : r.kind = 1 ∨ r.kind = 2 := by
  rw [may_iff] at h
  rcases h.2 with h2 | h2
  · exact .inl h2.1
  · exact .inr h2.1
theorem may_pos {r : Rec} (h : may r = true) : r.pos ≤ 4611686018427387904 := ((may_iff r).1 h).1
theorem head_bytes (r : Rec) (hw : r.Wf) (h : may r = true) : Bytes (head r) := by
  have hk := may_kind h
  unfold head
  refine Bytes.append (Bytes.append (Bytes.append (Bytes.append (Bytes.append ?_ ?_) ?_) (digits_bytes _ _)) (digits_bytes _ _)) hw.byte
  · intro x hx; simp at hx; omega
  · intro x hx; simp at hx; omega
  · intro x hx; simp at hx; omega
theorem body_bytes (r : Rec) (hw : r.Wf) (h : may r = true) : Bytes (body r) := (head_bytes r hw h).append (zs_bytes 12)
theorem encS_bytes (r : Rec) (hw : r.Wf) (h : may r = true) : Bytes (encS r) := (body_bytes r hw h).append (digits_bytes _ _)

/-- the record that 64 bytes would be of -/
def readS (bs : List Int) : Rec :=
  ⟨bs.getD 1 0, worth ((bs.drop 4).take 8), if bs.getD 1 0 = 1 then worth ((bs.drop 12).take 4) else 0, (bs.drop 16).take 32, if bs.getD 1 0 = 1 then 0 else worth ((bs.drop 12).take 4)⟩
theorem readS_wf (bs : List Int) (hb : Bytes bs) (hl : bs.length = 64) : (readS bs).Wf := by
  have h1 : 0 ≤ bs.getD 1 0 ∧ bs.getD 1 0 < 256 := by
    rw [show bs.getD 1 0 = bs[1]'(by omega) by simp [List.getD, List.getElem?_eq_getElem (show 1 < bs.length by omega)]]
    exact hb.at 1 (by omega)
  have h2 := worth_bd ((bs.drop 4).take 8) ((hb.drop 4).take 8)
  have h3 := worth_bd ((bs.drop 12).take 4) ((hb.drop 12).take 4)
  rw [show ((bs.drop 4).take 8).length = 8 by simp; omega] at h2
  rw [show ((bs.drop 12).take 4).length = 4 by simp; omega] at h3
  have e8 : (256 : Int) ^ 8 = 18446744073709551616 := by decide
  have e4 : (256 : Int) ^ 4 = 4294967296 := by decide
  rw [e8] at h2
  rw [e4] at h3
  have h5 : ((bs.drop 16).take 32).length = 32 := by simp; omega
  have h6 := (hb.drop 16).take 32
  unfold readS
  generalize bs.getD 1 0 = q at *
  generalize worth ((bs.drop 4).take 8) = u at *
  generalize worth ((bs.drop 12).take 4) = v at *
  generalize (bs.drop 16).take 32 = l at *
  refine ⟨?_, ?_, ?_, ?_, ?_, ?_, ?_, ?_, h5, h6⟩ <;> dsimp only <;> (try split) <;> omega

theorem cut8 (a : Int) (k : Int) (D R : List Int) (hD : D.length = 8) : ((a :: k :: 0 :: 0 :: (D ++ R)).drop 4).take 8 = D := by
  show (D ++ R).take 8 = D
  rw [List.take_append_of_le_length (by omega), List.take_of_length_le (by omega)]
theorem cut4 (a k : Int) (D E R : List Int) (hD : D.length = 8) (hE : E.length = 4) : ((a :: k :: 0 :: 0 :: (D ++ (E ++ R))).drop 12).take 4 = E := by
  show ((D ++ (E ++ R)).drop 8).take 4 = E
  rw [List.drop_append_of_le_length (by omega), List.drop_of_length_le (by omega), List.nil_append, List.take_append_of_le_length (by omega), List.take_of_length_le (by omega)]
theorem cut32 (a k : Int) (D E V : List Int) {R : List Int} (hD : D.length = 8) (hE : E.length = 4) (hV : V.length = 32) : ((a :: k :: 0 :: 0 :: (D ++ (E ++ (V ++ R)))).drop 16).take 32 = V := by
  show ((D ++ (E ++ (V ++ R))).drop 12).take 32 = V
  rw [List.drop_append, hD, List.drop_of_length_le (by omega), List.nil_append, List.drop_append, hE, List.drop_of_length_le (by omega), List.nil_append]
  show ((V ++ R).drop 0).take 32 = V
  rw [List.drop_zero, List.take_append_of_le_length (by omega), List.take_of_length_le (by omega)]
theorem readS_encS (r : Rec) (hw : r.Wf) (h : may r = true) : readS (encS r) = r := by
  have hd8 : (digits 8 r.pos).length = 8 := digits_length _ _
  have hd4 : (digits 4 (numS r)).length = 4 := digits_length _ _
  have hv := hw.len
  have hp : worth (digits 8 r.pos) = r.pos := by
    rw [worth_digits, show (256 : Int) ^ 8 = 18446744073709551616 by decide]
    have := hw.p0; have := hw.p1; omega
  have hn : worth (digits 4 (numS r)) = numS r := by
    rw [worth_digits, show (256 : Int) ^ 4 = 4294967296 by decide]
    have := numS_bd r h; omega
  obtain ⟨T, hT⟩ : ∃ T, T = zs 12 ++ digits 4 (crc (body r) : Nat) := ⟨_, rfl⟩
  have he : encS r = 87 :: r.kind :: 0 :: 0 :: (digits 8 r.pos ++ (digits 4 (numS r) ++ (r.val ++ T))) := by
    rw [hT]; simp [encS, body, head]
  have e1 : (encS r).getD 1 0 = r.kind := by rw [he]; rfl
  have e2 : ((encS r).drop 4).take 8 = digits 8 r.pos := by rw [he]; exact cut8 _ _ _ _ hd8
  have e3 : ((encS r).drop 12).take 4 = digits 4 (numS r) := by rw [he]; exact cut4 _ _ _ _ _ hd8 hd4
  have e4 : ((encS r).drop 16).take 32 = r.val := by rw [he]; exact cut32 _ _ _ _ _ hd8 hd4 hv
  unfold readS
  rw [e1, e2, e3, e4, hp, hn]
  rcases may_kind h with hk | hk
  · have hi : isImage r := by
      rcases ((may_iff r).1 h).2 with h2 | h2
      · exact h2
      · have := h2.1; omega
    rw [if_pos hk, if_pos hk]
    obtain ⟨k, p, b, v, i⟩ := r
    simp only [numS] at *
    simp only [isImage] at hi
    obtain ⟨a1, a2, a3, a4⟩ := hi
    simp [hk, a4]
  · have hc : isCommit r := by
      rcases ((may_iff r).1 h).2 with h2 | h2
      · have := h2.1; omega
      · exact h2
    rw [if_neg (by omega), if_neg (by omega)]
    obtain ⟨k, p, b, v, i⟩ := r
    simp only [numS] at *
    simp only [isCommit] at hc
    obtain ⟨a1, a2, a3, a4, a5⟩ := hc
    simp [hk, a4]

/-- the record of bytes, and the error -/
def goodB (bs : List Int) : Bool := may (readS bs) && decide (encS (readS bs) = bs)
def decS (bs : List Int) : Rec × Int := if bs.length ≠ 64 then (rec0, 2) else if goodB bs then (readS bs, 0) else (rec0, 60)
theorem decS_len (bs : List Int) (h : bs.length ≠ 64) : decS bs = (rec0, 2) := if_pos h
theorem decS_ok (bs : List Int) (h : bs.length = 64) (hg : goodB bs = true) : decS bs = (readS bs, 0) := by unfold decS; rw [if_neg (by omega), if_pos hg]
theorem decS_bad (bs : List Int) (h : bs.length = 64) (hg : ¬ goodB bs = true) : decS bs = (rec0, 60) := by unfold decS; rw [if_neg (by omega), if_neg hg]
theorem decS_err (bs : List Int) : (decS bs).2 = 0 ∨ ((decS bs).1 = rec0 ∧ ((decS bs).2 = 2 ∧ bs.length ≠ 64 ∨ (decS bs).2 = 60 ∧ bs.length = 64)) := by
  unfold decS
  by_cases h : bs.length ≠ 64
  · rw [if_pos h]; exact .inr ⟨rfl, .inl ⟨rfl, h⟩⟩
  · rw [if_neg h]
    split
    · exact .inl rfl
    · exact .inr ⟨rfl, .inr ⟨rfl, by omega⟩⟩
theorem decS_good (bs : List Int) (h : (decS bs).2 = 0) : may (decS bs).1 = true ∧ encS (decS bs).1 = bs ∧ bs.length = 64 := by
  unfold decS at *
  by_cases hl : bs.length ≠ 64
  · rw [if_pos hl] at h; cases h
  · rw [if_neg hl] at h ⊢
    by_cases hg : goodB bs = true
    · rw [if_pos hg]
      simp only [goodB, Bool.and_eq_true, decide_eq_true_eq] at hg
      exact ⟨hg.1, hg.2, by omega⟩
    · rw [if_neg hg] at h; cases h
theorem decS_wf (bs : List Int) (hb : Bytes bs) : (decS bs).1.Wf := by
  unfold decS
  by_cases hl : bs.length ≠ 64
  · rw [if_pos hl]; exact rec0_wf
  · rw [if_neg hl]
    split
    · exact readS_wf bs hb (by omega)
    · exact rec0_wf
theorem decS_encS (r : Rec) (hw : r.Wf) (h : may r = true) : decS (encS r) = (r, 0) := by
  have hg : goodB (encS r) = true := by
    unfold goodB
    rw [readS_encS r hw h, h]
    simp
  rw [decS_ok _ (encS_len r hw.len) hg, readS_encS r hw h]
theorem encS_inj (r s : Rec) (hr : r.Wf) (hs : s.Wf) (h1 : may r = true) (h2 : may s = true) (h : encS r = encS s) : r = s := by
  rw [← readS_encS r hr h1, h, readS_encS s hs h2]

/-- a sum's four bytes -/
theorem digits4 (s : Nat) : digits 4 (s : Int) = [((s % 256 : Nat) : Int), ((s / 256 % 256 : Nat) : Int), ((s / 65536 % 256 : Nat) : Int), ((s / 16777216 % 256 : Nat) : Int)] := by
  simp only [digits]
  refine List.cons_eq_cons.2 ⟨by omega, List.cons_eq_cons.2 ⟨by omega, List.cons_eq_cons.2 ⟨by omega, List.cons_eq_cons.2 ⟨by omega, rfl⟩⟩⟩⟩
theorem word4 (s : Nat) (h : s < 4294967296) : word (s % 256) (s / 256 % 256) (s / 65536 % 256) (s / 16777216 % 256) = s := by
  unfold word; omega
theorem crc_residue (X : List Int) (hX : Bytes X) : crc (X ++ digits 4 (crc X : Nat)) = 558161692 := by
  have hl := crc_lt X hX
  have e := st_four (st 4294967295 X) ((crc X % 256 : Nat) : Int) ((crc X / 256 % 256 : Nat) : Int) ((crc X / 65536 % 256 : Nat) : Int) ((crc X / 16777216 % 256 : Nat) : Int)
    (by rw [Int.toNat_natCast]; omega) (by rw [Int.toNat_natCast]; omega) (by rw [Int.toNat_natCast]; omega) []
  simp only [Int.toNat_natCast, word4 _ hl] at e
  have e2 : st 4294967295 (X ++ digits 4 (crc X : Nat)) = hn 32 4294967295 := by
    rw [st_append, digits4]
    rw [e, crc_st X, Nat.xor_assoc, Nat.xor_self, Nat.xor_zero]
    rfl
  unfold crc at *
  rw [e2]
  exact residue_num
theorem encS_sum (r : Rec) (hw : r.Wf) (h : may r = true) : crc (encS r) = 558161692 := crc_residue _ (body_bytes r hw h)
theorem good_sum (bs : List Int) (hb : Bytes bs) (h : (decS bs).2 = 0) : crc bs = 558161692 := by
  have h1 := decS_good bs h
  rw [← h1.2.1]
  exact encS_sum _ (decS_wf bs hb) h1.1

/-- what the first i turned bytes have made of the sum -/
def acc (t L i : Nat) : Nat := hn (8 * (L - i)) (hn (8 * i) (t % 2 ^ (8 * i)))
theorem acc_zero (t L : Nat) : acc t L 0 = 0 := by
  unfold acc
  rw [Nat.mul_zero, Nat.pow_zero, Nat.mod_one, hn_zero, hn_zero]
theorem acc_step (t L i : Nat) (h : i < L) : acc t L (i + 1) = acc t L i ^^^ hn (8 * (L - 1 - i)) (hn 8 (t / 2 ^ (8 * i) % 256)) := by
  unfold acc
  have e1 : t % 2 ^ (8 * (i + 1)) = (t % 2 ^ (8 * i)) ^^^ (2 ^ (8 * i) * (t / 2 ^ (8 * i) % 256)) := by
    have h := split_xor (8 * i) (t % 2 ^ (8 * (i + 1)))
    have a1 : t % 2 ^ (8 * (i + 1)) % 2 ^ (8 * i) = t % 2 ^ (8 * i) := Nat.mod_mod_of_dvd t (Nat.pow_dvd_pow 2 (by omega))
    have a2 : t % 2 ^ (8 * (i + 1)) / 2 ^ (8 * i) = t / 2 ^ (8 * i) % 256 := by
      rw [show 8 * (i + 1) = 8 * i + 8 by omega, Nat.pow_add, Nat.mod_mul_right_div_self]
    rw [a1, a2, Nat.xor_comm] at h
    exact h.symm
  rw [e1, hn_xor, hn_xor]
  congr 1
  · rw [← hn_add, ← hn_add]
    congr 1
    omega
  · rw [show 8 * (i + 1) = 8 * i + 8 by omega, hn_add, hn_pow]
    congr 2
    omega
theorem acc_four (t L : Nat) (ht : t < 4294967296) : acc t L 4 = 0 ↔ t = 0 := by
  unfold acc
  rw [show t % 2 ^ (8 * 4) = t from Nat.mod_eq_of_lt ht]
  constructor
  · intro h
    exact hn_ne _ _ ht (hn_ne _ _ (hn_lt _ _ ht) h)
  · rintro rfl
    rw [hn_zero, hn_zero]
theorem xor_same (a b : Nat) : a ^^^ b = a ↔ b = 0 := by
  constructor
  · intro h
    have : a ^^^ (a ^^^ b) = 0 := by rw [h, Nat.xor_self]
    rwa [← Nat.xor_assoc, Nat.xor_self, Nat.zero_xor] at this
  · rintro rfl
    exact Nat.xor_zero a

theorem turn_text (X : List Int) (hX : Bytes X) (at0 : Nat) (h : at0 < X.length) (x : Int) (hx0 : 0 ≤ x) (hx1 : x < 256) :
    Bytes (X.set at0 (bits .xor .u8 X[at0] x)) ∧ crc (X.set at0 (bits .xor .u8 X[at0] x)) = crc X ^^^ hn (8 * (X.length - 1 - at0)) (hn 8 x.toNat) := by
  have hc := hX.at at0 h
  have hb := u8_xor X[at0] x hc.1 hc.2 hx0 hx1
  have hl : X[at0].toNat ^^^ x.toNat < 256 := Nat.xor_lt_two_pow (n := 8) (by omega) (by omega)
  refine ⟨fun y hy => ?_, ?_⟩
  · rcases List.mem_or_eq_of_mem_set hy with hy | rfl
    · exact hX y hy
    · rw [hb]; omega
  · have e : X = X.take at0 ++ X[at0] :: X.drop (at0 + 1) := by
      conv => lhs; rw [← List.take_append_drop at0 X, List.drop_eq_getElem_cons h]
    have e2 : X.set at0 (bits .xor .u8 X[at0] x) = X.take at0 ++ bits .xor .u8 X[at0] x :: X.drop (at0 + 1) := by
      rw [List.set_eq_take_append_cons_drop, if_pos h]
    rw [e2, crc_turn (X.take at0) X[at0] (X.drop (at0 + 1)) x.toNat _ (by rw [hb, Int.toNat_natCast]), ← e, List.length_drop]
    rw [show X.length - (at0 + 1) = X.length - 1 - at0 by omega]

/-- a place among so many -/
theorem place (A : Int) (k : Nat) (hk : 0 < k) : ∃ (r : Int) (i : Nat), A.tmod k = r ∧ -(k : Int) < r ∧ r < k ∧ (r + k).tmod k = (i : Int) ∧ (r + k) % k = (i : Int) ∧ i < k := by
  have h1 : A.tmod k < k := Int.tmod_lt_of_pos A (by omega)
  have h2 : -(k : Int) < A.tmod k := by
    have := Int.lt_tmod_of_pos A (show (0 : Int) < k by omega)
    omega
  refine ⟨A.tmod k, ((A.tmod k + k) % k).toNat, rfl, h2, h1, ?_, ?_, ?_⟩
  · rw [Int.tmod_eq_emod_of_nonneg (by omega)]
    have := Int.emod_nonneg (A.tmod k + k) (show (k : Int) ≠ 0 by omega)
    omega
  · have := Int.emod_nonneg (A.tmod k + k) (show (k : Int) ≠ 0 by omega)
    omega
  · have := Int.emod_lt_of_pos (A.tmod k + k) (show (0 : Int) < k by omega)
    have := Int.emod_nonneg (A.tmod k + k) (show (k : Int) ≠ 0 by omega)
    omega
end Go.Proofs.YtefnkjajjidfaaaGreatDoor.R
