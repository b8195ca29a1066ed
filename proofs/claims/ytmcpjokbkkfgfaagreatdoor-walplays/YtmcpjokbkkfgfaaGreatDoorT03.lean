/-
  Plain mathematics of layer 6 (record): a record's bytes, there and back; bytes that are turned. Nothing of the dump.
-/
import Derived.Test.YtmcpjokbkkfgfaaGreatDoorT02
import Derived.Test.YtmcpjokbkkfgfaaGreatDoorT01
import Derived.Test.YtmcpjokbkkfgfaaGreatDoorRows
import Derived.WalkKit
import Derived.WalkSpells
import Derived.WalkLawsBesides
namespace Go.Proofs.YtmcpjokbkkfgfaaGreatDoor.R

/-- a record -/
structure Rec where
  kind : Int
  pos : Int
  block : Int
  val : List Int
  images : Int

/-- so many zeros -/
def zs (n : Nat) : List Int := List.replicate n 0
theorem zs_len (n : Nat) : (zs n).length = n := by simp [zs]
theorem zs_bytes (n : Nat) : Bytes (zs n) := fun x hx => by
  rw [List.eq_of_mem_replicate hx]; omega

/-- the record of nothing -/
def rec0 : Rec := ⟨0, 0, 0, zs 32, 0⟩

/-- what a record of the program's type is -/
structure Rec.Wf (r : Rec) : Prop where
  k0 : -9223372036854775808 ≤ r.kind
  k1 : r.kind ≤ 9223372036854775807
  p0 : 0 ≤ r.pos
  p1 : r.pos ≤ 18446744073709551615
  b0 : -9223372036854775808 ≤ r.block
  b1 : r.block ≤ 9223372036854775807
  i0 : -9223372036854775808 ≤ r.images
  i1 : r.images ≤ 9223372036854775807
  len : r.val.length = 32
  byte : Bytes r.val
theorem rec0_wf : rec0.Wf := ⟨by decide, by decide, by decide, by decide, by decide, by decide, by decide, by decide, by decide, zs_bytes 32⟩

/-- all but the position are an image's; a commit's -/
def isImage (r : Rec) : Prop := r.kind = 1 ∧ 0 ≤ r.block ∧ r.block < 64 ∧ r.images = 0
def isCommit (r : Rec) : Prop := r.kind = 2 ∧ 0 ≤ r.images ∧ r.images ≤ 16 ∧ r.block = 0 ∧ r.val = zs 32
def imageB (r : Rec) : Bool := r.kind == 1 && (decide (0 ≤ r.block) && (decide (r.block < 64) && r.images == 0))
def commitB (r : Rec) : Bool := r.kind == 2 && (decide (0 ≤ r.images) && (decide (r.images ≤ 16) && (r.block == 0 && decide (r.val = zs 32))))
theorem imageB_iff (r : Rec) : imageB r = true ↔ isImage r := by simp [imageB, isImage]
theorem commitB_iff (r : Rec) : commitB r = true ↔ isCommit r := by simp [commitB, isCommit]
/-- a record that may be -/
def may (r : Rec) : Bool := decide (r.pos ≤ 4611686018427387904) && (imageB r || commitB r)
theorem may_iff (r : Rec) : may r = true ↔ r.pos ≤ 4611686018427387904 ∧ (isImage r ∨ isCommit r) := by
  simp [may, ← imageB_iff, ← commitB_iff]
def chk (r : Rec) : Int := if may r then 0 else 60

/-- the number beside the position -/
def numS (r : Rec) : Int := if r.kind = 1 then r.block else r.images
theorem numS_bd (r : Rec) (h : may r = true) : 0 ≤ numS r ∧ numS r < 64 := by
  rw [may_iff] at h
  unfold numS
  rcases h.2 with h2 | h2
  · rw [if_pos h2.1]; exact ⟨h2.2.1, h2.2.2.1⟩
  · have := h2.1
    rw [if_neg (by omega)]; have := h2.2.1; have := h2.2.2.1; omega

/-- the first sixteen bytes and the value -/
def head (r : Rec) : List Int := [87] ++ [r.kind] ++ [0, 0] ++ digits 8 r.pos ++ digits 4 (numS r) ++ r.val
def body (r : Rec) : List Int := head r ++ zs 12
def encS (r : Rec) : List Int := body r ++ digits 4 (crc (body r) : Nat)

theorem head_len (r : Rec) (h : r.val.length = 32) : (head r).length = 48 := by simp [head, digits_length, h]
theorem body_len (r : Rec) (h : r.val.length = 32) : (body r).length = 60 := by simp [body, head_len r h, zs_len]
theorem encS_len (r : Rec) (h : r.val.length = 32) : (encS r).length = 64 := by simp [encS, body_len r h, digits_length]
theorem may_kind {r : Rec} (h : may r = true) : r.kind = 1 ∨ r.kind = 2 := by
  rw [may_iff] at h
  rcases h.2 with h2 | h2
  · exact .inl h2.1
  · exact .inr h2.1
theorem may_pos {r : Rec} (h : may r = true) : r.pos ≤ 4611686018427387904 := ((may_iff r).1 h).1
theorem head_bytes (r : Rec) (hw : r.Wf) (h : may r = true) : Bytes (head r) := by
  have hk := may_kind h
  unfold head
  refine Bytes.append (Bytes.append (Bytes.append (Bytes.append (Bytes.append ?_ ?_) ?_) (digits_bytes _ _)) (digits_bytes _ _)) hw.byte
  · intro x hx; simp at hx; omega
  · intro x hx; simp at hx; omega
  · intro x hx; simp at hx; omega
theorem body_bytes (r : Rec) (hw : r.Wf) (h : may r = true) : Bytes (body r) := (head_bytes r hw h).append (zs_bytes 12)
theorem encS_bytes (r : Rec) (hw : r.Wf) (h : may r = true) : Bytes (encS r) := (body_bytes r hw h).append (digits_bytes _ _)

/-- the record that 64 bytes would be of -/
def readS (bs : List Int) : Rec :=
  ⟨bs.getD 1 0, worth ((bs.drop 4).take 8), if bs.getD 1 0 = 1 then worth ((bs.drop 12).take 4) else 0, (bs.drop 16).take 32, if bs.getD 1 0 = 1 then 0 else worth ((bs.drop 12).take 4)⟩
theorem readS_wf (bs : List Int) (hb : Bytes bs) (hl : bs.length = 64) : (readS bs).Wf := by
  have h1 : 0 ≤ bs.getD 1 0 ∧ bs.getD 1 0 < 256 := by
    rw [show bs.getD 1 0 = bs[1]'(by omega) by simp [List.getD, List.getElem?_eq_getElem (show 1 < bs.length by omega)]]
    exact hb.at 1 (by omega)
  have h2 := worth_bd ((bs.drop 4).take 8) ((hb.drop 4).take 8)
  have h3 := worth_bd ((bs.drop 12).take 4) ((hb.drop 12).take 4)
  rw [show ((bs.drop 4).take 8).length = 8 by simp; omega] at h2
  rw [show ((bs.drop 12).take 4).length = 4 by simp; omega] at h3
  have e8 : (256 : Int) ^ 8 = 18446744073709551616 := by decide
  have e4 : (256 : Int) ^ 4 = 4294967296 := by decide
  rw [e8] at h2
  rw [e4] at h3
  have h5 : ((bs.drop 16).take 32).length = 32 := by simp; omega
  have h6 := (hb.drop 16).take 32
  unfold readS
  generalize bs.getD 1 0 = q at *
  generalize worth ((bs.drop 4).take 8) = u at *
  generalize worth ((bs.drop 12).take 4) = v at *
  generalize (bs.drop 16).take 32 = l at *
  refine ⟨?_, ?_, ?_, ?_, ?_, ?_, ?_, ?_, h5, h6⟩ <;> dsimp only <;> (try split) <;> omega

theorem cut8 (a : Int) (k : Int) (D R : List Int) (hD : D.length = 8) : ((a :: k :: 0 :: 0 :: (D ++ R)).drop 4).take 8 = D := by
  show (D ++ R).take 8 = D
  rw [List.take_append_of_le_length (by omega), List.take_of_length_le (by omega)]
theorem cut4 (a k : Int) (D E R : List Int) (hD : D.length = 8) (hE : E.length = 4) : ((a :: k :: 0 :: 0 :: (D ++ (E ++ R))).drop 12).take 4 = E := by
  show ((D ++ (E ++ R)).drop 8).take 4 = E
  rw [List.drop_append_of_le_length (by omega), List.drop_of_length_le (by omega), List.nil_append, List.take_append_of_le_length (by omega), List.take_of_length_le (by omega)]
theorem cut32 (a k : Int) (D E V : List Int) {R : List Int} (hD : D.length = 8) (hE : E.length = 4) (hV : V.length = 32) : ((a :: k :: 0 :: 0 :: (D ++ (E ++ (V ++ R)))).drop 16).take 32 = V := by
  show ((D ++ (E ++ (V ++ R))).drop 12).take 32 = V
  rw [List.drop_append, hD, List.drop_of_length_le (by omega), List.nil_append, List.drop_append, hE, List.drop_of_length_le (by omega), List.nil_append]
  show ((V ++ R).drop 0).take 32 = V
  rw [List.drop_zero, List.take_append_of_le_length (by omega), List.take_of_length_le (by omega)]
theorem readS_encS (r : Rec) (hw : r.Wf) (h : may r = true) : readS (encS r) = r := by
  have hd8 : (digits 8 r.pos).length = 8 := digits_length _ _
  have hd4 : (digits 4 (numS r)).length = 4 := digits_length _ _
  have hv := hw.len
  have hp : worth (digits 8 r.pos) = r.pos := by
    rw [worth_digits, show (256 : Int) ^ 8 = 18446744073709551616 by decide]
    have := hw.p0; have := hw.p1; omega
  have hn : worth (digits 4 (numS r)) = numS r := by
    rw [worth_digits, show (256 : Int) ^ 4 = 4294967296 by decide]
    have := numS_bd r h; omega
  obtain ⟨T, hT⟩ : ∃ T, T = zs 12 ++ digits 4 (crc (body r) : Nat) := ⟨_, rfl⟩
  have he : encS r = 87 :: r.kind :: 0 :: 0 :: (digits 8 r.pos ++ (digits 4 (numS r) ++ (r.val ++ T))) := by
    rw [hT]; simp [encS, body, head]
  have e1 : (encS r).getD 1 0 = r.kind := by rw [he]; rfl
  have e2 : ((encS r).drop 4).take 8 = digits 8 r.pos := by rw [he]; exact cut8 _ _ _ _ hd8
  have e3 : ((encS r).drop 12).take 4 = digits 4 (numS r) := by rw [he]; exact cut4 _ _ _ _ _ hd8 hd4
  have e4 : ((encS r).drop 16).take 32 = r.val := by rw [he]; exact cut32 _ _ _ _ _ hd8 hd4 hv
  unfold readS
  rw [e1, e2, e3, e4, hp, hn]
  rcases may_kind h with hk | hk
  · have hi : isImage r := by
      rcases ((may_iff r).1 h).2 with h2 | h2
      · exact h2
      · have := h2.1; omega
    rw [if_pos hk, if_pos hk]
    obtain ⟨k, p, b, v, i⟩ := r
    simp only [numS] at *
    simp only [isImage] at hi
    obtain ⟨a1, a2, a3, a4⟩ := hi
    simp [hk, a4]
  · have hc : isCommit r := by
      rcases ((may_iff r).1 h).2 with h2 | h2
      · have := h2.1; omega
      · exact h2
    rw [if_neg (by omega), if_neg (by omega)]
    obtain ⟨k, p, b, v, i⟩ := r
    simp only [numS] at *
    simp only [isCommit] at hc
    obtain ⟨a1, a2, a3, a4, a5⟩ := hc
    simp [hk, a4]

/-- the record of bytes, and the error -/
def goodB (bs : List Int) : Bool := may (readS bs) && decide (encS (readS bs) = bs)
def decS (bs : List Int) : Rec × Int := if bs.length ≠ 64 then (rec0, 2) else if goodB bs then (readS bs, 0) else (rec0, 60)
theorem decS_len (bs : List Int) (h : bs.length ≠ 64) : decS bs = (rec0, 2) := if_pos h
theorem decS_ok (bs : List Int) (h : bs.length = 64) (hg : goodB bs = true) : decS bs = (readS bs, 0) := by unfold decS; rw [if_neg (by omega), if_pos hg]
theorem decS_bad (bs : List Int) (h : bs.length = 64) (hg : ¬ goodB bs = true) : decS bs = (rec0, 60) := by unfold decS; rw [if_neg (by omega), if_neg hg]
theorem decS_err (bs : List Int) : (decS bs).2 = 0 ∨ ((decS bs).1 = rec0 ∧ ((decS bs).2 = 2 ∧ bs.length ≠ 64 ∨ (decS bs).2 = 60 ∧ bs.length = 64)) := by
  unfold decS
  by_cases h : bs.length ≠ 64
  · rw [if_pos h]; exact .inr ⟨rfl, .inl ⟨rfl, h⟩⟩
  · rw [if_neg h]
    split
    · exact .inl rfl
    · exact .inr ⟨rfl, .inr ⟨rfl, by omega⟩⟩
theorem decS_good (bs : List Int) (h : (decS bs).2 = 0) : may (decS bs).1 = true ∧ encS (decS bs).1 = bs ∧ bs.length = 64 := by
  unfold decS at *
  by_cases hl : bs.length ≠ 64
  · rw [if_pos hl] at h; cases h
  · rw [if_neg hl] at h ⊢
    by_cases hg : goodB bs = true
    · rw [if_pos hg]
      simp only [goodB, Bool.and_eq_true, decide_eq_true_eq] at hg
      exact ⟨hg.1, hg.2, by omega⟩
    · rw [if_neg hg] at h; cases h
theorem decS_wf (bs : List Int) (hb : Bytes bs) : (decS bs).1.Wf := by
  unfold decS
  by_cases hl : bs.length ≠ 64
  · rw [if_pos hl]; exact rec0_wf
  · rw [if_neg hl]
    split
    · exact readS_wf bs hb (by omega)
    · exact rec0_wf
theorem decS_encS (r : Rec) (hw : r.Wf) (h : may r = true) : decS (encS r) = (r, 0) := by
  have hg : goodB (encS r) = true := by
    unfold goodB
    rw [readS_encS r hw h, h]
    simp
  rw [decS_ok _ (encS_len r hw.len) hg, readS_encS r hw h]
theorem encS_inj (r s : Rec) (hr : r.Wf) (hs : s.Wf) (h1 : may r = true) (h2 : may s = true) (h : encS r = encS s) : r = s := by
  rw [← readS_encS r hr h1, h, readS_encS s hs h2]

/-- a sum's four bytes -/
theorem digits4 (s : Nat) : digits 4 (s : Int) = [((s % 256 : Nat) : Int), ((s / 256 % 256 : Nat) : Int), ((s / 65536 % 256 : Nat) : Int), ((s / 16777216 % 256 : Nat) : Int)] := by
  simp only [digits]
  refine List.cons_eq_cons.2 ⟨by omega, List.cons_eq_cons.2 ⟨by omega, List.cons_eq_cons.2 ⟨by omega, List.cons_eq_cons.2 ⟨by omega, rfl⟩⟩⟩⟩
theorem word4 (s : Nat) (h : s < 4294967296) : word (s % 256) (s / 256 % 256) (s / 65536 % 256) (s / 16777216 % 256) = s := by
  unfold word; omega
theorem crc_residue (X : List Int) (hX : Bytes X) : crc (X ++ digits 4 (crc X : Nat)) = 558161692 := by
  have hl := crc_lt X hX
  have e := st_four (st 4294967295 X) ((crc X % 256 : Nat) : Int) ((crc X / 256 % 256 : Nat) : Int) ((crc X / 65536 % 256 : Nat) : Int) ((crc X / 16777216 % 256 : Nat) : Int)
    (by rw [Int.toNat_natCast]; omega) (by rw [Int.toNat_natCast]; omega) (by rw [Int.toNat_natCast]; omega) []
  simp only [Int.toNat_natCast, word4 _ hl] at e
  have e2 : st 4294967295 (X ++ digits 4 (crc X : Nat)) = hn 32 4294967295 := by
    rw [st_append, digits4]
    rw [e, crc_st X, Nat.xor_assoc, Nat.xor_self, Nat.xor_zero]
    rfl
  unfold crc at *
  rw [e2]
  exact residue_num
theorem encS_sum (r : Rec) (hw : r.Wf) (h : may r = true) : crc (encS r) = 558161692 := crc_residue _ (body_bytes r hw h)
theorem good_sum (bs : List Int) (hb : Bytes bs) (h : (decS bs).2 = 0) : crc bs = 558161692 := by
  have h1 := decS_good bs h
  rw [← h1.2.1]
  exact encS_sum _ (decS_wf bs hb) h1.1

/-- what the first i turned bytes have made of the sum -/
def acc (t L i : Nat) : Nat := hn (8 * (L - i)) (hn (8 * i) (t % 2 ^ (8 * i)))
theorem acc_zero (t L : Nat) : acc t L 0 = 0 := by
  unfold acc
  rw [Nat.mul_zero, Nat.pow_zero, Nat.mod_one, hn_zero, hn_zero]
theorem acc_step (t L i : Nat) (h : i < L) : acc t L (i + 1) = acc t L i ^^^ hn (8 * (L - 1 - i)) (hn 8 (t / 2 ^ (8 * i) % 256)) := by
  unfold acc
  have e1 : t % 2 ^ (8 * (i + 1)) = (t % 2 ^ (8 * i)) ^^^ (2 ^ (8 * i) * (t / 2 ^ (8 * i) % 256)) := by
    have h := split_xor (8 * i) (t % 2 ^ (8 * (i + 1)))
    have a1 : t % 2 ^ (8 * (i + 1)) % 2 ^ (8 * i) = t % 2 ^ (8 * i) := Nat.mod_mod_of_dvd t (Nat.pow_dvd_pow 2 (by omega))
    have a2 : t % 2 ^ (8 * (i + 1)) / 2 ^ (8 * i) = t / 2 ^ (8 * i) % 256 := by
      rw [show 8 * (i + 1) = 8 * i + 8 by omega, Nat.pow_add, Nat.mod_mul_right_div_self]
    rw [a1, a2, Nat.xor_comm] at h
    exact h.symm
  rw [e1, hn_xor, hn_xor]
  congr 1
  · rw [← hn_add, ← hn_add]
    congr 1
    omega
  · rw [show 8 * (i + 1) = 8 * i + 8 by omega, hn_add, hn_pow]
    congr 2
    omega
theorem acc_four (t L : Nat) (ht : t < 4294967296) : acc t L 4 = 0 ↔ t = 0 := by
  unfold acc
  rw [show t % 2 ^ (8 * 4) = t from Nat.mod_eq_of_lt ht]
  constructor
  · intro h
    exact hn_ne _ _ ht (hn_ne _ _ (hn_lt _ _ ht) h)
  · rintro rfl
    rw [hn_zero, hn_zero]
theorem xor_same (a b : Nat) : a ^^^ b = a ↔ b = 0 := by
  constructor
  · intro h
    have : a ^^^ (a ^^^ b) = 0 := by rw [h, Nat.xor_self]
    rwa [← Nat.xor_assoc, Nat.xor_self, Nat.zero_xor] at this
  · rintro rfl
    exact Nat.xor_zero a

theorem turn_text (X : List Int) (hX : Bytes X) (at0 : Nat) (h : at0 < X.length) (x : Int) (hx0 : 0 ≤ x) (hx1 : x < 256) :
    Bytes (X.set at0 (bits .xor .u8 X[at0] x)) ∧ crc (X.set at0 (bits .xor .u8 X[at0] x)) = crc X ^^^ hn (8 * (X.length - 1 - at0)) (hn 8 x.toNat) := by
  have hc := hX.at at0 h
  have hb := u8_xor X[at0] x hc.1 hc.2 hx0 hx1
  have hl : X[at0].toNat ^^^ x.toNat < 256 := Nat.xor_lt_two_pow (n := 8) (by omega) (by omega)
  refine ⟨fun y hy => ?_, ?_⟩
  · rcases List.mem_or_eq_of_mem_set hy with hy | rfl
    · exact hX y hy
    · rw [hb]; omega
  · have e : X = X.take at0 ++ X[at0] :: X.drop (at0 + 1) := by
      conv => lhs; rw [← List.take_append_drop at0 X, List.drop_eq_getElem_cons h]
    have e2 : X.set at0 (bits .xor .u8 X[at0] x) = X.take at0 ++ bits .xor .u8 X[at0] x :: X.drop (at0 + 1) := by
      rw [List.set_eq_take_append_cons_drop, if_pos h]
    rw [e2, crc_turn (X.take at0) X[at0] (X.drop (at0 + 1)) x.toNat _ (by rw [hb, Int.toNat_natCast]), ← e, List.length_drop]
    rw [show X.length - (at0 + 1) = X.length - 1 - at0 by omega]

/-- a place among so many -/
theorem place (A : Int) (k : Nat) (hk : 0 < k) : ∃ (r : Int) (i : Nat), A.tmod k = r ∧ -(k : Int) < r ∧ r < k ∧ (r + k).tmod k = (i : Int) ∧ (r + k) % k = (i : Int) ∧ i < k := by
  have h1 : A.tmod k < k := Int.tmod_lt_of_pos A (by omega)
  have h2 : -(k : Int) < A.tmod k := by
    have := Int.lt_tmod_of_pos A (show (0 : Int) < k by omega)
    omega
  refine ⟨A.tmod k, ((A.tmod k + k) % k).toNat, rfl, h2, h1, ?_, ?_, ?_⟩
  · rw [Int.tmod_eq_emod_of_nonneg (by omega)]
    have := Int.emod_nonneg (A.tmod k + k) (show (k : Int) ≠ 0 by omega)
    omega
  · have := Int.emod_nonneg (A.tmod k + k) (show (k : Int) ≠ 0 by omega)
    omega
  · have := Int.emod_lt_of_pos (A.tmod k + k) (show (0 : Int) < k by omega)
    have := Int.emod_nonneg (A.tmod k + k) (show (k : Int) ≠ 0 by omega)
    omega
end Go.Proofs.YtmcpjokbkkfgfaaGreatDoor.R

/-
  Plain mathematics of layer 9 (wal): a log, what its calls answer and leave.
-/
namespace Go.Proofs.YtmcpjokbkkfgfaaGreatDoor

/-- a log: its configuration (whose tail and life are not asked), its life, Tail, End, the mark, how many images, the last one's block -/
structure Lg where
  c : Sup
  life : Int
  tail : Int
  fin : Int
  mark : Int
  imgs : Int
  last : Int
structure Lg.Ok (g : Lg) : Prop where
  cf : MayC g.c
  l0 : 1 ≤ g.life
  l1 : g.life ≤ 4611686018427387904
  t0 : 0 ≤ g.tail
  tm : g.tail ≤ g.mark
  mf : g.mark ≤ g.fin
  fM : g.fin ≤ 4611686018427387904
  us : g.fin - g.tail ≤ g.c.lc
  i0 : 0 ≤ g.imgs
  i1 : g.imgs ≤ g.c.mr
  b0 : -1 ≤ g.last
  b1 : g.last < g.c.bl
  il : (g.imgs = 0 ∧ g.last = -1) ∨ (1 ≤ g.imgs ∧ 0 ≤ g.last)
/-- how many sectors its disk has -/
def Lg.sz (g : Lg) : Nat := 1 + g.c.bl.toNat + g.c.lc.toNat
theorem Lg.Ok.sz_is {g : Lg} (h : g.Ok) : ((g.sz : Nat) : Int) = 1 + g.c.bl + g.c.lc := by
  have := h.cf.1; have := h.cf.2.1; unfold Lg.sz; omega
def moreS (g : Lg) : Int := if g.fin = 4611686018427387904 then 31 else if g.fin - g.tail = g.c.lc then 90 else 0
theorem moreS_max {g : Lg} (h : g.fin = 4611686018427387904) : moreS g = 31 := if_pos h
theorem moreS_full {g : Lg} (h : ¬ g.fin = 4611686018427387904) (h2 : g.fin - g.tail = g.c.lc) : moreS g = 90 := by unfold moreS; rw [if_neg h, if_pos h2]
theorem moreS_ok {g : Lg} (h : ¬ g.fin = 4611686018427387904) (h2 : ¬ g.fin - g.tail = g.c.lc) : moreS g = 0 := by unfold moreS; rw [if_neg h, if_neg h2]
theorem moreS_zero {g : Lg} (h : moreS g = 0) : ¬ g.fin = 4611686018427387904 ∧ ¬ g.fin - g.tail = g.c.lc := by
  by_cases h1 : g.fin = 4611686018427387904
  · rw [moreS_max h1] at h; cases h
  · by_cases h2 : g.fin - g.tail = g.c.lc
    · rw [moreS_full h1 h2] at h; cases h
    · exact ⟨h1, h2⟩
/-- the sector of a position -/
def secN (g : Lg) (p : Int) : Int := 1 + g.c.bl + p % g.c.lc
theorem secN_in {g : Lg} (h : g.Ok) (p : Int) : 0 ≤ secN g p ∧ secN g p < (g.sz : Nat) := by
  have h1 := h.cf.1; have h2 := h.cf.2.1; have h3 := h.sz_is
  have h4 := Int.emod_nonneg p (show g.c.lc ≠ 0 by omega)
  have h5 := Int.emod_lt_of_pos p (show 0 < g.c.lc by omega)
  unfold secN; omega
abbrev Bad (g : Lg) (b : Int) : Prop := b ≤ g.last ∨ g.c.bl ≤ b ∨ g.c.mr ≤ g.imgs
def imgS (g : Lg) (b : Int) : Int := if moreS g = 0 then (if Bad g b then 60 else 0) else moreS g
theorem imgS_more {g : Lg} (b : Int) (h : ¬ moreS g = 0) : imgS g b = moreS g := if_neg h
theorem imgS_bad {g : Lg} {b : Int} (h : moreS g = 0) (hb : Bad g b) : imgS g b = 60 := by unfold imgS; rw [if_pos h, if_pos hb]
theorem imgS_ok {g : Lg} {b : Int} (h : moreS g = 0) (hb : ¬ Bad g b) : imgS g b = 0 := by unfold imgS; rw [if_pos h, if_neg hb]
theorem imgS_zero {g : Lg} {b : Int} (h : imgS g b = 0) : moreS g = 0 ∧ ¬ Bad g b := by
  by_cases h1 : moreS g = 0
  · by_cases h2 : Bad g b
    · rw [imgS_bad h1 h2] at h; cases h
    · exact ⟨h1, h2⟩
  · rw [imgS_more b h1] at h; exact absurd h h1
def imgR (g : Lg) (b : Int) (v : List Int) : R.Rec := ⟨1, g.fin, b, v, 0⟩
def comR (g : Lg) : R.Rec := ⟨2, g.fin, 0, R.zs 32, g.imgs⟩
def addG (g : Lg) : Lg := { g with fin := g.fin + 1 }
def imgG (g : Lg) (b : Int) : Lg := { g with fin := g.fin + 1, imgs := g.imgs + 1, last := b }
def comG (g : Lg) : Lg := { g with fin := g.fin + 1, imgs := 0, last := -1 }
def supL (g : Lg) (t : Int) : Sup := ⟨g.c.bl, g.c.lc, g.c.mr, g.c.hi, g.c.cl, t, g.life⟩
def mkG (g : Lg) (t : Int) : Lg := { g with mark := t }
def frG (g : Lg) : Lg := { g with tail := g.mark }
abbrev Out (g : Lg) (t : Int) : Prop := t < g.tail ∨ g.fin < t
def mkS (g : Lg) (t : Int) : Int := if Out g t then 2 else 0
theorem imgR_may {g : Lg} (h : g.Ok) {b : Int} {v : List Int} (hb : ¬ Bad g b) : R.may (imgR g b v) = true := by
  have h1 := h.cf.1; have := h.b0; have := h.fM
  exact (R.may_iff _).2 ⟨h.fM, .inl ⟨rfl, by show (0 : Int) ≤ b; omega, by show b < 64; omega, rfl⟩⟩
theorem imgR_wf {g : Lg} (h : g.Ok) {b : Int} {v : List Int} (hb : ¬ Bad g b) (hl : v.length = 32) (hv : Bytes v) : (imgR g b v).Wf := by
  have h1 := h.cf.1; have := h.b0; have := h.fM; have := h.t0; have := h.tm; have := h.mf
  refine ⟨?_, ?_, ?_, ?_, ?_, ?_, ?_, ?_, hl, hv⟩ <;> simp only [imgR] <;> omega
theorem comR_may {g : Lg} (h : g.Ok) : R.may (comR g) = true := by
  have h1 := h.cf.2.2.1; have := h.i0; have := h.i1; have := h.fM
  exact (R.may_iff _).2 ⟨h.fM, .inr ⟨rfl, h.i0, by show g.imgs ≤ 16; omega, rfl, rfl⟩⟩
theorem comR_wf {g : Lg} (h : g.Ok) : (comR g).Wf := by
  have h1 := h.cf.2.2.1; have := h.i0; have := h.i1; have := h.fM; have := h.t0; have := h.tm; have := h.mf
  refine ⟨?_, ?_, ?_, ?_, ?_, ?_, ?_, ?_, R.zs_len 32, R.zs_bytes 32⟩ <;> simp only [comR] <;> omega
theorem imgG_ok {g : Lg} (h : g.Ok) {b : Int} (h0 : imgS g b = 0) : (imgG g b).Ok := by
  obtain ⟨hm, hb⟩ := imgS_zero h0
  obtain ⟨m1, m2⟩ := moreS_zero hm
  have := h.b0; have := h.fM; have := h.us; have := h.mf; have := h.i0; have := h.i1
  refine ⟨h.cf, h.l0, h.l1, h.t0, h.tm, ?_, ?_, ?_, ?_, ?_, ?_, ?_, ?_⟩ <;> simp only [imgG] <;> omega
theorem comG_ok {g : Lg} (h : g.Ok) (hm : moreS g = 0) : (comG g).Ok := by
  obtain ⟨m1, m2⟩ := moreS_zero hm
  have := h.cf.1; have := h.cf.2.2.1; have := h.fM; have := h.us; have := h.mf
  refine ⟨h.cf, h.l0, h.l1, h.t0, h.tm, ?_, ?_, ?_, ?_, ?_, ?_, ?_, .inl ⟨rfl, rfl⟩⟩ <;> simp only [comG] <;> omega
theorem mkG_ok {g : Lg} (h : g.Ok) {t : Int} (ht : ¬ Out g t) : (mkG g t).Ok := by
  refine ⟨h.cf, h.l0, h.l1, h.t0, ?_, ?_, h.fM, h.us, h.i0, h.i1, h.b0, h.b1, h.il⟩ <;> simp only [mkG] <;> omega
theorem frG_ok {g : Lg} (h : g.Ok) : (frG g).Ok := by
  have := h.t0; have := h.tm; have := h.mf; have := h.us
  refine ⟨h.cf, h.l0, h.l1, ?_, ?_, h.mf, h.fM, ?_, h.i0, h.i1, h.b0, h.b1, h.il⟩ <;> simp only [frG] <;> omega
theorem supL_may {g : Lg} (h : g.Ok) {t : Int} (ht : ¬ Out g t) : May (supL g t) := by
  have := h.fM; have := h.l0; have := h.l1
  exact ⟨h.cf, by show t ≤ _; omega, h.l0, h.l1⟩
theorem supL_wf {g : Lg} (h : g.Ok) {t : Int} (ht : ¬ Out g t) : (supL g t).Wf := by
  have h1 := h.cf; have := h.fM; have := h.l0; have := h.l1; have := h.t0
  refine ⟨?_, ?_, ?_, ?_, ?_, ?_, ?_⟩ <;> simp only [supL] <;> constructor <;> omega
/-- what Read answers; R: what the sectors read -/
abbrev Outr (g : Lg) (p : Int) : Prop := p < g.tail ∨ g.fin ≤ p
def rdS (g : Lg) (N : Nat → List Int) (p : Int) : R.Rec × Int :=
  if Outr g p then (R.rec0, 30) else if (R.decS (N (secN g p).toNat)).2 = 0 then (if (R.decS (N (secN g p).toNat)).1.pos = p then ((R.decS (N (secN g p).toNat)).1, 0) else (R.rec0, 60)) else (R.rec0, (R.decS (N (secN g p).toNat)).2)
theorem rdS_out {g : Lg} (N : Nat → List Int) {p : Int} (h : Outr g p) : rdS g N p = (R.rec0, 30) := if_pos h
theorem rdS_err {g : Lg} {N : Nat → List Int} {p : Int} (h : ¬ Outr g p) (he : ¬ (R.decS (N (secN g p).toNat)).2 = 0) : rdS g N p = (R.rec0, (R.decS (N (secN g p).toNat)).2) := by unfold rdS; rw [if_neg h, if_neg he]
theorem rdS_other {g : Lg} {N : Nat → List Int} {p : Int} (h : ¬ Outr g p) (he : (R.decS (N (secN g p).toNat)).2 = 0) (hp : ¬ (R.decS (N (secN g p).toNat)).1.pos = p) : rdS g N p = (R.rec0, 60) := by unfold rdS; rw [if_neg h, if_pos he, if_neg hp]
theorem rdS_ok {g : Lg} {N : Nat → List Int} {p : Int} (h : ¬ Outr g p) (he : (R.decS (N (secN g p).toNat)).2 = 0) (hp : (R.decS (N (secN g p).toNat)).1.pos = p) : rdS g N p = ((R.decS (N (secN g p).toNat)).1, 0) := by unfold rdS; rw [if_neg h, if_pos he, if_pos hp]
theorem rdS_wf {g : Lg} {N : Nat → List Int} {p : Int} (hN : Bytes (N (secN g p).toNat)) : (rdS g N p).1.Wf := by
  by_cases h : Outr g p
  · rw [rdS_out N h]; exact R.rec0_wf
  · by_cases he : (R.decS (N (secN g p).toNat)).2 = 0
    · by_cases hp : (R.decS (N (secN g p).toNat)).1.pos = p
      · rw [rdS_ok h he hp]; exact R.decS_wf _ hN
      · rw [rdS_other h he hp]; exact R.rec0_wf
    · rw [rdS_err h he]; exact R.rec0_wf
theorem rdS_pos {g : Lg} {N : Nat → List Int} {p : Int} (h0 : (rdS g N p).2 = 0) : (rdS g N p).1.pos = p ∧ ¬ Outr g p := by
  by_cases h : Outr g p
  · rw [rdS_out N h] at h0; cases h0
  · by_cases he : (R.decS (N (secN g p).toNat)).2 = 0
    · by_cases hp : (R.decS (N (secN g p).toNat)).1.pos = p
      · rw [rdS_ok h he hp]; exact ⟨hp, h⟩
      · rw [rdS_other h he hp] at h0; cases h0
    · rw [rdS_err h he] at h0; exact absurd h0 he
/-- Open -/
def opnG (s : Sup) (t l : Int) : Lg := ⟨s, l, t, t, t, 0, -1⟩
def opnS (s : Sup) (n : Int) (t l : Int) : Int := if MayC s then (if n = 1 + s.bl + s.lc then (if t > 4611686018427387904 ∨ l > 4611686018427387904 then 31 else if l = 0 then 2 else 0) else 40) else 3
theorem opnS_no {s : Sup} (n t l : Int) (h : ¬ MayC s) : opnS s n t l = 3 := if_neg h
theorem opnS_len {s : Sup} {n : Int} (t l : Int) (h : MayC s) (hn : ¬ n = 1 + s.bl + s.lc) : opnS s n t l = 40 := by unfold opnS; rw [if_pos h, if_neg hn]
theorem opnS_wrap {s : Sup} {n t l : Int} (h : MayC s) (hn : n = 1 + s.bl + s.lc) (ht : t > 4611686018427387904 ∨ l > 4611686018427387904) : opnS s n t l = 31 := by unfold opnS; rw [if_pos h, if_pos hn, if_pos ht]
theorem opnS_life {s : Sup} {n t l : Int} (h : MayC s) (hn : n = 1 + s.bl + s.lc) (ht : ¬ (t > 4611686018427387904 ∨ l > 4611686018427387904)) (hl : l = 0) : opnS s n t l = 2 := by unfold opnS; rw [if_pos h, if_pos hn, if_neg ht, if_pos hl]
theorem opnS_ok {s : Sup} {n t l : Int} (h : MayC s) (hn : n = 1 + s.bl + s.lc) (ht : ¬ (t > 4611686018427387904 ∨ l > 4611686018427387904)) (hl : ¬ l = 0) : opnS s n t l = 0 := by unfold opnS; rw [if_pos h, if_pos hn, if_neg ht, if_neg hl]
theorem opnS_zero {s : Sup} {n t l : Int} (h : opnS s n t l = 0) : MayC s ∧ n = 1 + s.bl + s.lc ∧ t ≤ 4611686018427387904 ∧ l ≤ 4611686018427387904 ∧ l ≠ 0 := by
  by_cases h1 : MayC s
  · by_cases h2 : n = 1 + s.bl + s.lc
    · by_cases h3 : t > 4611686018427387904 ∨ l > 4611686018427387904
      · rw [opnS_wrap h1 h2 h3] at h; cases h
      · by_cases h4 : l = 0
        · rw [opnS_life h1 h2 h3 h4] at h; cases h
        · exact ⟨h1, h2, by omega, by omega, h4⟩
    · rw [opnS_len t l h1 h2] at h; cases h
  · rw [opnS_no n t l h1] at h; cases h
theorem opnG_ok {s : Sup} {n t l : Int} (h : opnS s n t l = 0) (ht : 0 ≤ t) (hl : 0 ≤ l) : (opnG s t l).Ok := by
  obtain ⟨h1, h2, h3, h4, h5⟩ := opnS_zero h
  refine ⟨h1, ?_, ?_, ?_, ?_, ?_, ?_, ?_, ?_, ?_, ?_, ?_, .inl ⟨rfl, rfl⟩⟩ <;> simp only [opnG] <;> omega
/-- what All gives, from a position on, at most so many -/
def allR (rd : Int → R.Rec × Int) (p : Int) : Nat → List R.Rec
  | 0 => []
  | k + 1 => if (rd p).2 = 0 then (rd p).1 :: allR rd (p + 1) k else []
def allS (g : Lg) (N : Nat → List Int) : List R.Rec := allR (rdS g N) g.tail (g.fin - g.tail).toNat
end Go.Proofs.YtmcpjokbkkfgfaaGreatDoor

/-
  Contracts of layer 1, first part: isSize, number, bytes.Clone.
-/
namespace Go.Proofs.YtmcpjokbkkfgfaaGreatDoor
open Go.RowKit

theorem info5 : (Tryz.prog.info? 5).map (fun i => (i.zero, i.size, i.bytes)) = some (some (.int .u8 0), 1, 1) := by kernel_rfl
theorem info3 : (Tryz.prog.info? 3).map (fun i => (i.zero, i.size, i.bytes)) = some (some (.int .i64 0), 1, 8) := by kernel_rfl
theorem info27 : (Tryz.prog.info? 24).map (fun i => (i.zero, i.size, i.bytes)) = some (some (.int .u64 0), 1, 8) := by kernel_rfl

/-- how a []byte lies that is read: n bytes, the numbers xs; where there is none: whatever the address -/
structure BIn (w : World) (p : Option Addr) (n : Nat) (xs : List Int) : Prop where
  len : xs.length = n
  byte : Bytes xs
  cells : 0 < n → ∃ b o, p = some ⟨b, o, none⟩ ∧ ∀ i, i < n → w.cell? ⟨b, o + i, none⟩ = some (.int .u8 (xs.getD i 0))

abbrev U8 (xs : List Int) : List Value := xs.map (Value.int .u8)

set_option maxHeartbeats 400000 in
set_option maxRecDepth 100000 in
theorem isSize_any (s : Int) (w : World) :
    Calls Tryz.prog 106 #[.int .i64 s] w fun e w' => e = .returned (.bool (decide (1 ≤ s ∧ s ≤ 8))) ∧ w = w' := by
  go_enter Tryz.func106, Tryz.ntmps106
  go_wp2
  all_goals go_ret
  all_goals (refine ⟨?_, rfl⟩; simp; omega)

set_option maxHeartbeats 400000 in
set_option maxRecDepth 100000 in
theorem number_pos (b o n c : Nat) (xs : List Int) (w : World) (hx : xs.length = n) (hn : n ≤ 8)
    (h : ∀ i, i < n → w.cell? ⟨b, o + i, none⟩ = some (.int .u8 (xs.getD i 0))) (hr : Bytes xs) :
    Calls Tryz.prog 107 #[.slice (some ⟨b, o, none⟩) n c] w fun e w' => e = .returned (.int .u64 (worth xs)) ∧ w = w' := by
  go_enter Tryz.func107, Tryz.ntmps107
  go_wp2
  go_loop [3, 8] (fun m i => ∃ k : Nat, k ≤ n ∧ i = .int .i64 k ∧ m = .int .u64 (worth (xs.take k))) (fun _ i => n - (intOf i).toNat)
  case atStart => exact ⟨0, Nat.zero_le _, rfl, rfl⟩
  case round =>
    obtain ⟨k, hk, rfl, rfl⟩ := hrel
    by_cases hlt : k < n
    · have hc := h k hlt
      have hkl : k < xs.length := by omega
      have hxk := hr.at k hkl
      have hzb := worth_bd (xs.take k) (hr.take k)
      have hzl : (xs.take k).length = k := by rw [List.length_take]; omega
      have HS : Hid (bits .or .u64 (worth (xs.take k)) (IntKind.u64.wrap (xs[k] * 2 ^ (8 * k))) = worth (xs.take (k + 1))) := by
        rw [hzl] at hzb
        show _ = _
        rw [worth_take_succ xs k hkl]
        exact or_step _ _ k (by omega) hzb.1 hzb.2 hxk.1 hxk.2
      clear hzb hzl
      go_wp2
      go_round
      case rel => exact ⟨k + 1, by omega, by go_num, by rw [HS.out]⟩
      case measure => simp [intOf]; omega
    · have he : xs.take k = xs := List.take_of_length_le (by omega)
      have HE : Hid (xs.take k = xs) := he
      clear he
      go_wp2
      go_ret
      refine ⟨?_, rfl⟩
      simp [HE.out]

set_option maxHeartbeats 400000 in
set_option maxRecDepth 100000 in
theorem number_zero (p : Option Addr) (c : Nat) (w : World) :
    Calls Tryz.prog 107 #[.slice p 0 c] w fun e w' => e = .returned (.int .u64 0) ∧ w = w' := by
  go_enter Tryz.func107, Tryz.ntmps107
  go_wp2
  refine wp_loop_rounds 1 ?_
  rw [rounds_succ]
  go_wp2
  go_ret
  exact ⟨rfl, rfl⟩

theorem number_any (p : Option Addr) (n c : Nat) (xs : List Int) (w : World) (hn : n ≤ 8) (h : BIn w p n xs) :
    Calls Tryz.prog 107 #[.slice p n c] w fun e w' => e = .returned (.int .u64 (worth xs)) ∧ w = w' := by
  by_cases h0 : 0 < n
  · obtain ⟨b, o, rfl, hc⟩ := h.cells h0
    exact number_pos b o n c xs w h.len hn hc h.byte
  · obtain rfl : n = 0 := by omega
    obtain rfl : xs = [] := List.eq_nil_of_length_eq_zero h.len
    exact number_zero p c w

set_option maxHeartbeats 1000000 in
set_option maxRecDepth 100000 in
theorem clone_at (a : Addr) (n c : Nat) (xs : List Int) (w : World) (hx : xs.length = n) (hbig : n ≤ 140737488355328) (hc : ∀ i, i < n → w.cell? (a.add i) = some (.int .u8 (xs.getD i 0))) :
    Calls Tryz.prog 68 #[.slice (some a) n c] w fun e w' => ∃ v', e = .returned v' ∧ w'.ownsRow w.heap.size 5 1 v' n (U8 xs) ∧ Below w.heap.size w w' := by
  obtain ⟨i0, hi, hz0, hz1, hz2⟩ := info_parts info5
  have q22 : ∀ (w : World) (a : Option Addr) (n c n' c' : Nat), (binOp .eql 51 (.slice a n c) (.slice none n' c')).run Tryz.prog w = .ok (.bool a.isNone) w := fun w a n c n' c' => Lib.run_eql_slice_nil w _ _ a n c n' c' Tryz.underlying51
  have A : Hid (∀ i, i < n → w.cell? (a.add i) = some (.int .u8 (xs.getD i 0))) := hc
  clear hc
  go_enter Tryz.func68, Tryz.ntmps68
  go_wp2_with (at_builtin; refine wpList_append_own _ rfl _ _ 51 rfl w.heap.size 5 i0 (.int .u8 0) 1 1 Tryz.underlying51 hi hz0 hz1 hz2 rfl (by decide) _ _ _ rfl (World.ownsRow_made w #[] 0 (Nat.le_refl _) (Nat.zero_le _) rfl) a n c (xs.map (Value.int .u8)) rfl ?qc1 ?qc2 ?qc3 ?qc4 ?qc5 ?qc6 ?_)
  case qc1 => simp; omega
  case qc2 =>
    intro j u hj
    have hjn : j < n := by
      have := (List.getElem?_eq_some_iff.1 hj).1
      simp at this
      omega
    refine Lib.cell?_alloc_some _ ?_
    rw [A.out j hjn]
    have e : (xs.map (Value.int .u8))[j]? = some (Value.int .u8 (xs.getD j 0)) := by simp [List.getD, List.getElem?_eq_getElem (show j < xs.length by omega)]
    rw [e] at hj
    exact hj
  case qc3 => intro u hu; obtain ⟨x, _, rfl⟩ := List.mem_map.1 hu; rfl
  case qc4 => unfold maxLen; omega
  case qc5 => omega
  case qc6 => simp
  intro v' w1 hown hgrow hnil
  go_wp2
  go_ret
  refine ⟨v', rfl, by simpa using hown, ?_⟩
  exact ((Below.refl _ w).alloc (Nat.le_refl _) _).grown hgrow (by simp) (by intro k hk; simp [Value.ownBlock] at hk; omega)

set_option maxHeartbeats 400000 in
set_option maxRecDepth 100000 in
theorem clone_nil (c : Nat) (w : World) :
    Calls Tryz.prog 68 #[.slice none 0 c] w fun e w' => e = .returned (.slice none 0 0) ∧ w = w' := by
  have q22 : ∀ (w : World) (a : Option Addr) (n c n' c' : Nat), (binOp .eql 51 (.slice a n c) (.slice none n' c')).run Tryz.prog w = .ok (.bool a.isNone) w := fun w a n c n' c' => Lib.run_eql_slice_nil w _ _ a n c n' c' Tryz.underlying51
  go_enter Tryz.func68, Tryz.ntmps68
  go_wp2
  go_ret
  exact ⟨rfl, rfl⟩

theorem BIn.at {w : World} {a : Addr} {n : Nat} {xs : List Int} (h : BIn w (some a) n xs) : ∀ i, i < n → w.cell? (a.add i) = some (.int .u8 (xs.getD i 0)) := by
  intro i hi
  obtain ⟨b, o, e, hc⟩ := h.cells (by omega)
  simp only [Option.some.injEq] at e
  subst e
  rw [Go.WideShapes.add_plain]
  exact hc i hi

theorem clone_any (p : Option Addr) (n c : Nat) (xs : List Int) (w : World) (h : BIn w p n xs) (hbig : n ≤ 140737488355328) :
    Calls Tryz.prog 68 #[.slice p n c] w fun e w' => ∃ v', e = .returned v' ∧ w'.ownsRow w.heap.size 5 1 v' n (U8 xs) ∧ Below w.heap.size w w' := by
  cases p with
  | some a => exact clone_at a n c xs w h.len hbig h.at
  | none =>
    have h0 : n = 0 := by
      by_cases hp : 0 < n
      · obtain ⟨b, o, e, _⟩ := h.cells hp; cases e
      · omega
    subst h0
    obtain rfl : xs = [] := List.eq_nil_of_length_eq_zero h.len
    refine (clone_nil c w).mono ?_
    rintro e w' ⟨rfl, hw⟩
    subst hw
    exact ⟨_, rfl, World.ownsRow_nil _ _ _ _, Below.refl _ _⟩

theorem BIn.take {w : World} {p : Option Addr} {n : Nat} {xs : List Int} (h : BIn w p n xs) (k : Nat) (hk : k ≤ n) : BIn w p k (xs.take k) := by
  refine ⟨by rw [List.length_take, h.len]; omega, h.byte.take k, fun hp => ?_⟩
  obtain ⟨b, o, e, hc⟩ := h.cells (by omega)
  refine ⟨b, o, e, fun i hi => ?_⟩
  rw [hc i (by omega)]
  simp [List.getD, hi]
theorem BIn.drop {w : World} {b o n : Nat} {xs : List Int} (h : BIn w (some ⟨b, o, none⟩) n xs) (k : Nat) (hk : k ≤ n) : BIn w (some ⟨b, o + k, none⟩) (n - k) (xs.drop k) := by
  refine ⟨by rw [List.length_drop, h.len], h.byte.drop k, fun hp => ?_⟩
  obtain ⟨b', o', e, hc⟩ := h.cells (by omega)
  simp only [Option.some.injEq, Addr.mk.injEq, and_true] at e
  obtain ⟨rfl, rfl⟩ := e
  refine ⟨_, _, rfl, fun i hi => ?_⟩
  rw [show o + k + i = o + (k + i) by omega, hc (k + i) (by omega)]
  simp [List.getD, List.getElem?_drop]
theorem BIn.drew {w : World} {p : Option Addr} {n : Nat} {xs : List Int} (h : BIn w p n xs) : BIn w.drew p n xs := ⟨h.len, h.byte, h.cells⟩
theorem BIn.empty {w : World} {p : Option Addr} : BIn w p 0 [] := ⟨rfl, Bytes.nil, fun h => by omega⟩
theorem below_undrew {B : Nat} {w w' : World} (h : Below B w.drew w') : Below B w w' := ⟨h.os, h.tape, h.output, h.size, h.block⟩

end Go.Proofs.YtmcpjokbkkfgfaaGreatDoor

/-
  Contracts of layer 1, second part: octet.Put.
-/
namespace Go.Proofs.YtmcpjokbkkfgfaaGreatDoor
open Go.RowKit

set_option maxHeartbeats 400000 in
set_option maxRecDepth 100000 in
theorem put_input (n s : Int) (w : World) (hs : s < 1 ∨ 8 < s) :
    Calls Tryz.prog 96 #[.int .u64 n, .int .i64 s] w fun e w' => e = .returned (.tuple #[.slice none 0 0, .int .i64 2]) ∧ w = w' := by
  have hd : decide (1 ≤ s ∧ s ≤ 8) = false := decide_eq_false (by omega)
  go_enter Tryz.func96, Tryz.ntmps96
  go_wp2_with (go_at_call 106; refine (isSize_any _ _).mono ?_; rintro e w' ⟨rfl, rfl⟩)
  go_ret2
  exact ⟨rfl, rfl⟩

set_option maxHeartbeats 400000 in
set_option maxRecDepth 100000 in
theorem put_wide (n : Int) (k : Nat) (w : World) (_hn0 : 0 ≤ n) (hs : 1 ≤ k ∧ k ≤ 8) (hw : n / 256 ^ k ≠ 0) :
    Calls Tryz.prog 96 #[.int .u64 n, .int .i64 k] w fun e w' => e = .returned (.tuple #[.slice none 0 0, .int .i64 10]) ∧ w = w' := by
  have hd : decide (1 ≤ (k : Int) ∧ (k : Int) ≤ 8) = true := decide_eq_true (by omega)
  have hq := wide_yes n k hw
  clear hw
  go_enter Tryz.func96, Tryz.ntmps96
  go_wp2_with (go_at_call 106; refine (isSize_any _ _).mono ?_; rintro e w' ⟨rfl, rfl⟩)
  go_ret2
  exact ⟨rfl, rfl⟩

theorem made_filled (n : Int) (k : Nat) : (madeCells #[Value.int .u8 0] k).toList = U8 (filled (digits k n) 0) := by
  rw [filled_zero, digits_length, toList_madeCells_one]
  simp [U8]

set_option maxHeartbeats 1000000 in
set_option maxRecDepth 100000 in
theorem put_ok (n : Int) (k : Nat) (w : World) (_hn0 : 0 ≤ n) (hs : 1 ≤ k ∧ k ≤ 8) (hw : n / 256 ^ k = 0) :
    Calls Tryz.prog 96 #[.int .u64 n, .int .i64 k] w fun e w' => ∃ v', e = .returned (.tuple #[v', .int .i64 0]) ∧ w'.ownsRow w.heap.size 5 1 v' k (U8 (digits k n)) ∧ Below w.heap.size w w' := by
  obtain ⟨i0, hi, hz0, hz1, hz2⟩ := info_parts info5
  have hd : decide (1 ≤ (k : Int) ∧ (k : Int) ≤ 8) = true := decide_eq_true (by omega)
  have hq := wide_no n k hw
  clear hw
  go_enter Tryz.func96, Tryz.ntmps96
  go_wp2_with (first | (go_at_call 106; refine (isSize_any _ _).mono ?_; rintro e w' ⟨rfl, rfl⟩) | (at_make; refine wpList_make_full _ rfl _ _ 51 rfl w.heap.size 5 i0 (.int .u8 0) 1 Tryz.underlying51 hi hz0 hz1 .i64 .i64 _ _ k rfl rfl rfl rfl ?b2 ?b3 ?b4 ?_))
  case b2 => rw [hz2]; omega
  case b3 => unfold maxLen; omega
  case b4 => simp
  intro w1 hown hgrow
  rw [made_filled n k] at hown
  have hb := (Below.refl w.heap.size w).grown hgrow (Nat.le_refl _) (by intro k hk; cases hk)
  clear hgrow hq
  have HL : Hid ((digits k n).length = k) := digits_length k n
  go_wp2
  go_loopw [20] (fun i wr => ∃ j : Nat, j ≤ k ∧ i = .int .i64 j ∧ wr.ownsRow w.heap.size 5 1 (.slice (some ⟨w.heap.size, 0, none⟩) k k) k (U8 (filled (digits k n) j)) ∧ Below w.heap.size w wr) (fun i _ => k - (intOf i).toNat)
  case atStart => exact ⟨0, Nat.zero_le _, rfl, hown, hb⟩
  case round =>
    obtain ⟨j, hj, rfl, hown1, hb1⟩ := hrel
    by_cases hlt : j < k
    · have hdl : j < (digits k n).length := by rw [HL.out]; exact hlt
      have hst := hown1.stored j (.int .u8 ((digits k n)[j]))
      have hcell := hown1.cellAt j (by omega)
      have hlen : (U8 (filled (digits k n) j)).length = k := by simp [U8, filled_length _ _ (Nat.le_of_lt hdl), HL.out]
      obtain ⟨u, hu⟩ : ∃ u, wr.cell? ⟨w.heap.size, j, none⟩ = some u := ⟨_, by rw [hcell]; exact List.getElem?_eq_getElem (by omega)⟩
      have hfz := hown1.frozenAt j
      have HV : Hid (n / 2 ^ (8 * j) % 256 = (digits k n)[j]) := byte_of n k j hdl
      have HF : Hid ((U8 (filled (digits k n) j)).set j (.int .u8 ((digits k n)[j])) = U8 (filled (digits k n) (j + 1))) := by
        show _ = _
        rw [← filled_step _ _ hdl]
        simp [U8, List.map_set]
      have H1 := hst.1
      have H2 := hst.2
      rw [HF.out] at H1
      have HO : Hid (_) := H1
      have HG : Hid (_) := H2
      have HB : Hid (_) := hb1
      clear hst H1 H2 hcell hlen hown1 hb1 hown hb HF
      go_wp2
      go_roundw
      case rel =>
        rw [HV.out]
        exact ⟨j + 1, by omega, by go_num, HO.out, HB.out.grown HG.out (by have := HB.out.size; omega) (by intro q hq; simp at hq; omega)⟩
      case measure => simp [intOf]; omega
    · have hjk : j = k := by omega
      have HR := hown1
      rw [filled_all _ _ (by rw [HL.out]; omega)] at HR
      have HO : Hid (_) := HR
      have HB : Hid (_) := hb1
      clear HR hown1 hb1 hown hb hjk
      go_wp2
      go_ret2
      exact ⟨_, rfl, HO.out, HB.out⟩

theorem put_any (n s : Int) (w : World) (hn0 : 0 ≤ n) :
    Calls Tryz.prog 96 #[.int .u64 n, .int .i64 s] w fun e w' => ∃ v', e = .returned (.tuple #[v', .int .i64 (putS n s).2]) ∧
      w'.ownsRow w.heap.size 5 1 v' (putS n s).1.length (U8 (putS n s).1) ∧ Below w.heap.size w w' := by
  unfold putS
  by_cases hs : s < 1 ∨ 8 < s
  · rw [if_pos hs]
    refine (put_input n s w hs).mono ?_
    rintro e w' ⟨rfl, hw⟩
    subst hw
    exact ⟨_, rfl, World.ownsRow_nil _ _ _ _, Below.refl _ _⟩
  · rw [if_neg hs]
    obtain ⟨k, rfl⟩ := Int.eq_ofNat_of_zero_le (show 0 ≤ s by omega)
    rw [Int.toNat_natCast]
    by_cases hw : n / 256 ^ k ≠ 0
    · rw [if_pos hw]
      refine (put_wide n k w hn0 (by omega) hw).mono ?_
      rintro e w' ⟨rfl, hw⟩
      subst hw
      exact ⟨_, rfl, World.ownsRow_nil _ _ _ _, Below.refl _ _⟩
    · rw [if_neg hw]
      simp only [digits_length]
      exact put_ok n k w hn0 (by omega) (by simpa using hw)

end Go.Proofs.YtmcpjokbkkfgfaaGreatDoor
