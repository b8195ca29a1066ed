/-
  Plain mathematics of layer 8 (home): a block's bytes, there and back; a new disk; what the calls answer. Nothing of the dump.
-/
import Derived.Test.YtefnkjajjidfaaaGreatDoorSup
import Derived.Test.YtefnkjajjidfaaaGreatDoorDMath
namespace Go.Proofs.YtefnkjajjidfaaaGreatDoor

/-- a home's bytes -/
def hbody (b : Int) (v : List Int) : List Int := [72, 79, 77, 69, 1, b] ++ (zs 22 ++ v)
def homeS (b : Int) (v : List Int) : List Int := hbody b v ++ digits 4 (crc (hbody b v) : Nat)
abbrev inB (b : Int) : Prop := 0 ≤ b ∧ b < 64
theorem hbody_len {v : List Int} (b : Int) (h : v.length = 32) : (hbody b v).length = 60 := by simp [hbody, zs_len, h]
theorem homeS_len {v : List Int} (b : Int) (h : v.length = 32) : (homeS b v).length = 64 := by simp [homeS, hbody_len b h, digits_length]
theorem hbody_bytes {b : Int} {v : List Int} (hb : inB b) (hv : Bytes v) : Bytes (hbody b v) := by
  unfold hbody
  refine Bytes.append ?_ ((zs_bytes 22).append hv)
  intro x hx; simp at hx; omega
theorem homeS_bytes {b : Int} {v : List Int} (hb : inB b) (hv : Bytes v) : Bytes (homeS b v) := (hbody_bytes hb hv).append (digits_bytes _ _)
/-- the value that stands in 64 bytes -/
def cutV (bs : List Int) : List Int := (bs.drop 28).take 32
theorem cutV_len {bs : List Int} (h : bs.length = 64) : (cutV bs).length = 32 := by simp [cutV]; omega
theorem cutV_bytes {bs : List Int} (h : Bytes bs) : Bytes (cutV bs) := (h.drop _).take _
theorem cutV_homeS {v : List Int} (b : Int) (h : v.length = 32) : cutV (homeS b v) = v := by
  have e : homeS b v = ([72, 79, 77, 69, 1, b] ++ zs 22) ++ (v ++ digits 4 (crc (hbody b v) : Nat)) := by
    simp only [homeS, hbody, List.append_assoc]
  have hl : ([72, 79, 77, 69, 1, b] ++ zs 22).length = 28 := by simp [zs_len]
  unfold cutV
  rw [e, List.drop_append_of_le_length (by omega), List.drop_of_length_le (by omega), List.nil_append, List.take_append_of_le_length (by omega), List.take_of_length_le (by omega)]
theorem homeS_block {b c : Int} {u v : List Int} (h : homeS b u = homeS c v) : b = c := by
  have := congrArg (fun l => l.getD 5 0) h
  exact this
/-- what Encode answers -/
def hencT (b : Int) (v : List Int) : List Int := if inB b then homeS b v else []
def hencE (b : Int) : Int := if inB b then 0 else 51
theorem hencT_yes {b : Int} (v : List Int) (h : inB b) : hencT b v = homeS b v := if_pos h
theorem hencE_yes {b : Int} (h : inB b) : hencE b = 0 := if_pos h
theorem hencT_no {b : Int} (v : List Int) (h : ¬ inB b) : hencT b v = [] := if_neg h
theorem hencE_no {b : Int} (h : ¬ inB b) : hencE b = 51 := if_neg h
theorem hencT_len {v : List Int} (b : Int) (h : v.length = 32) : (hencT b v).length ≤ 64 := by
  by_cases hb : inB b
  · rw [hencT_yes v hb, homeS_len b h]; omega
  · rw [hencT_no v hb]; simp
theorem hencT_bytes {v : List Int} (b : Int) (h : Bytes v) : Bytes (hencT b v) := by
  by_cases hb : inB b
  · rw [hencT_yes v hb]; exact homeS_bytes hb h
  · rw [hencT_no v hb]; exact Bytes.nil
/-- what Decode answers -/
def hdec (bs : List Int) (b : Int) : List Int × Int := if inB b then (if bs.length = 64 then (if homeS b (cutV bs) = bs then (cutV bs, 0) else (zs 32, 80)) else (zs 32, 2)) else (zs 32, 51)
theorem hdec_out (bs : List Int) {b : Int} (h : ¬ inB b) : hdec bs b = (zs 32, 51) := if_neg h
theorem hdec_short {bs : List Int} {b : Int} (h : inB b) (hl : bs.length ≠ 64) : hdec bs b = (zs 32, 2) := by unfold hdec; rw [if_pos h, if_neg hl]
theorem hdec_ok {bs : List Int} {b : Int} (h : inB b) (hl : bs.length = 64) (he : homeS b (cutV bs) = bs) : hdec bs b = (cutV bs, 0) := by unfold hdec; rw [if_pos h, if_pos hl, if_pos he]
theorem hdec_bad {bs : List Int} {b : Int} (h : inB b) (hl : bs.length = 64) (he : ¬ homeS b (cutV bs) = bs) : hdec bs b = (zs 32, 80) := by unfold hdec; rw [if_pos h, if_pos hl, if_neg he]
theorem hdec_cases (bs : List Int) (b : Int) : (hdec bs b = (zs 32, 51) ∧ ¬ inB b) ∨ (hdec bs b = (zs 32, 2) ∧ inB b ∧ bs.length ≠ 64) ∨ (hdec bs b = (cutV bs, 0) ∧ inB b ∧ bs.length = 64 ∧ homeS b (cutV bs) = bs) ∨ (hdec bs b = (zs 32, 80) ∧ inB b ∧ bs.length = 64 ∧ ¬ homeS b (cutV bs) = bs) := by
  by_cases h : inB b
  · by_cases hl : bs.length = 64
    · by_cases he : homeS b (cutV bs) = bs
      · exact .inr (.inr (.inl ⟨hdec_ok h hl he, h, hl, he⟩))
      · exact .inr (.inr (.inr ⟨hdec_bad h hl he, h, hl, he⟩))
    · exact .inr (.inl ⟨hdec_short h hl, h, hl⟩)
  · exact .inl ⟨hdec_out bs h, h⟩
theorem hdec_len (bs : List Int) (b : Int) : (hdec bs b).1.length = 32 := by
  rcases hdec_cases bs b with ⟨e, _⟩ | ⟨e, _⟩ | ⟨e, _, h, _⟩ | ⟨e, _⟩ <;> rw [e]
  · exact zs_len 32
  · exact zs_len 32
  · exact cutV_len h
  · exact zs_len 32
theorem hdec_bytes {bs : List Int} (b : Int) (hb : Bytes bs) : Bytes (hdec bs b).1 := by
  rcases hdec_cases bs b with ⟨e, _⟩ | ⟨e, _⟩ | ⟨e, _, h, _⟩ | ⟨e, _⟩ <;> rw [e]
  · exact zs_bytes 32
  · exact zs_bytes 32
  · exact cutV_bytes hb
  · exact zs_bytes 32
theorem hdec_homeS {b : Int} {v : List Int} (hb : inB b) (hv : v.length = 32) : hdec (homeS b v) b = (v, 0) := by
  rw [hdec_ok hb (homeS_len b hv) (by rw [cutV_homeS b hv]), cutV_homeS b hv]
theorem hdec_other {b c : Int} {v : List Int} (hc : inB c) (hv : v.length = 32) (h : ¬ c = b) : hdec (homeS b v) c = (zs 32, 80) :=
  hdec_bad hc (homeS_len b hv) fun e => h (homeS_block e)
theorem homeS_sum {b : Int} {v : List Int} (hb : inB b) (hv : Bytes v) : crc (homeS b v) = 558161692 := crc_residue _ (hbody_bytes hb hv)
theorem hdec_turned {bs : List Int} {b : Int} (h : inB b) (hl : bs.length = 64) (hb : Bytes bs) (hc : crc bs ≠ 558161692) : hdec bs b = (zs 32, 80) :=
  hdec_bad h hl fun e => hc (by rw [← e]; exact homeS_sum h (cutV_bytes hb))

/-- a new disk -/
def sup1 (s : Sup) : Sup := ⟨s.bl, s.lc, s.mr, s.hi, s.cl, 0, 1⟩
theorem sup1_mayT (s : Sup) : MayT (sup1 s) := ⟨by show (0 : Int) ≤ _; omega, by show (1 : Int) ≤ 1; omega, by show (1 : Int) ≤ _; omega⟩
theorem sup1_chk (s : Sup) : chk (sup1 s) = cfg s := by
  unfold chk cfg
  by_cases h : MayC s
  · rw [if_pos (show MayC (sup1 s) from h), if_pos (sup1_mayT s), if_pos h]
  · rw [if_neg (show ¬ MayC (sup1 s) from h), if_neg h]
theorem sup1_may {s : Sup} (h : MayC s) : May (sup1 s) := ⟨h, sup1_mayT s⟩
theorem sup1_wf {s : Sup} (h : MayC s) : (sup1 s).Wf := may_wf _ (sup1_may h) (by show (0 : Int) ≤ 0; omega)
def homes (n : Nat) : List Int := ((List.range n).map fun (i : Nat) => homeS (i : Int) (zs 32)).flatten
theorem homes_succ (n : Nat) : homes (n + 1) = homes n ++ homeS (n : Int) (zs 32) := by simp [homes, List.range_succ]
theorem homes_len (n : Nat) : (homes n).length = 64 * n := by
  induction n with
  | zero => rfl
  | succ n ih => rw [homes_succ, List.length_append, ih, homeS_len _ (zs_len 32)]; omega
theorem homes_bytes (n : Nat) (h : n ≤ 64) : Bytes (homes n) := by
  induction n with
  | zero => exact Bytes.nil
  | succ n ih => rw [homes_succ]; exact (ih (by omega)).append (homeS_bytes ⟨by omega, by omega⟩ (zs_bytes 32))
def newS (s : Sup) : List Int := encS (sup1 s) ++ homes s.bl.toNat ++ zs (64 * s.lc.toNat)
def cntS (s : Sup) : Nat := 1 + s.bl.toNat + s.lc.toNat
theorem cntS_is {s : Sup} (h : MayC s) : ((cntS s : Nat) : Int) = 1 + s.bl + s.lc := by have := h.1; have := h.2.1; unfold cntS; omega
theorem cntS_bd {s : Sup} (h : MayC s) : 4 ≤ cntS s ∧ cntS s ≤ 129 := by have := h.1; have := h.2.1; unfold cntS; omega
theorem newS_len (s : Sup) : (newS s).length = 64 * cntS s := by
  unfold newS cntS
  rw [List.length_append, List.length_append, encS_len, homes_len, zs_len]; omega
theorem newS_bytes {s : Sup} (h : MayC s) : Bytes (newS s) := by
  have := h.1
  exact ((encS_bytes _).append (homes_bytes _ (by omega))).append (zs_bytes _)
theorem homes_sec (n i : Nat) (R : List Int) (h : i < n) : ((homes n ++ R).drop (64 * i)).take 64 = homeS (i : Int) (zs 32) := by
  induction n generalizing R with
  | zero => omega
  | succ n ih =>
    rw [homes_succ, List.append_assoc]
    by_cases c : i < n
    · exact ih _ c
    · obtain rfl : i = n := by omega
      have hl := homes_len i
      rw [List.drop_append_of_le_length (by omega), List.drop_of_length_le (by omega), List.nil_append, List.take_append_of_le_length (by rw [homeS_len _ (zs_len 32)]; omega), List.take_of_length_le (by rw [homeS_len _ (zs_len 32)]; omega)]
theorem newS_sec (s : Sup) (i : Nat) (h : i < s.bl.toNat) : sec (newS s) (1 + i) = homeS (i : Int) (zs 32) := by
  unfold newS sec
  have e : (encS (sup1 s) ++ (homes s.bl.toNat ++ zs (64 * s.lc.toNat))).drop 64 = homes s.bl.toNat ++ zs (64 * s.lc.toNat) := by
    rw [List.drop_append_of_le_length (by rw [encS_len]; omega), List.drop_of_length_le (l := encS (sup1 s)) (by rw [encS_len]; omega), List.nil_append]
  rw [List.append_assoc, show 64 * (1 + i) = 64 + 64 * i by omega, ← List.drop_drop, e]
  exact homes_sec _ i _ h

/-- why a disk of n sectors is none of this configuration; why a block has no home on it -/
def rfS (s : Sup) (n : Int) : Int := if MayC s then (if n = 1 + s.bl + s.lc then 0 else 40) else 3
theorem rfS_no {s : Sup} (n : Int) (h : ¬ MayC s) : rfS s n = 3 := if_neg h
theorem rfS_len {s : Sup} {n : Int} (h : MayC s) (h2 : ¬ n = 1 + s.bl + s.lc) : rfS s n = 40 := by unfold rfS; rw [if_pos h, if_neg h2]
theorem rfS_ok {s : Sup} {n : Int} (h : MayC s) (h2 : n = 1 + s.bl + s.lc) : rfS s n = 0 := by unfold rfS; rw [if_pos h, if_pos h2]
theorem rfS_zero {s : Sup} {n : Int} (h : rfS s n = 0) : MayC s ∧ n = 1 + s.bl + s.lc := by
  unfold rfS at h
  by_cases c : MayC s
  · rw [if_pos c] at h
    by_cases c2 : n = 1 + s.bl + s.lc
    · exact ⟨c, c2⟩
    · rw [if_neg c2] at h; omega
  · rw [if_neg c] at h; omega
def rbS (s : Sup) (n : Int) (b : Int) : Int := if rfS s n = 0 then (if 0 ≤ b ∧ b < s.bl then 0 else 51) else rfS s n
theorem rbS_no {s : Sup} {n : Int} (b : Int) (h : ¬ rfS s n = 0) : rbS s n b = rfS s n := if_neg h
theorem rbS_out {s : Sup} {n b : Int} (h : rfS s n = 0) (h2 : ¬ (0 ≤ b ∧ b < s.bl)) : rbS s n b = 51 := by unfold rbS; rw [if_pos h, if_neg h2]
theorem rbS_ok {s : Sup} {n b : Int} (h : rfS s n = 0) (h2 : 0 ≤ b ∧ b < s.bl) : rbS s n b = 0 := by unfold rbS; rw [if_pos h, if_pos h2]
theorem rbS_zero {s : Sup} {n b : Int} (h : rbS s n b = 0) : rfS s n = 0 ∧ 0 ≤ b ∧ b < s.bl := by
  unfold rbS at h
  by_cases c : rfS s n = 0
  · rw [if_pos c] at h
    by_cases c2 : 0 ≤ b ∧ b < s.bl
    · exact ⟨c, c2⟩
    · rw [if_neg c2] at h; omega
  · rw [if_neg c] at h; exact absurd h c
theorem rbS_in {s : Sup} {n b : Int} (h : rbS s n b = 0) : inB b ∧ 0 ≤ 1 + b ∧ 1 + b < n := by
  obtain ⟨h1, h2, h3⟩ := rbS_zero h
  obtain ⟨h4, h5⟩ := rfS_zero h1
  have := h4.1; have := h4.2.1
  refine ⟨⟨?_, ?_⟩, ?_, ?_⟩ <;> omega
/-- behind Save -/
def svW (s : Sup) (n : Int) (ws : List Wr) (b : Int) (v : List Int) : List Wr := if rbS s n b = 0 then ws ++ [⟨(1 + b).toNat, homeS b v⟩] else ws
theorem svW_yes {s : Sup} {n b : Int} (ws : List Wr) (v : List Int) (h : rbS s n b = 0) : svW s n ws b v = ws ++ [⟨(1 + b).toNat, homeS b v⟩] := if_pos h
theorem svW_no {s : Sup} {n b : Int} (ws : List Wr) (v : List Int) (h : ¬ rbS s n b = 0) : svW s n ws b v = ws := if_neg h
theorem svW_length (s : Sup) (n : Int) (ws : List Wr) (b : Int) (v : List Int) : (svW s n ws b v).length ≤ ws.length + 1 := by unfold svW; split <;> simp
/-- what Load answers -/
def ldS (s : Sup) (n : Int) (ws : List Wr) (d : List Int) (b : Int) : List Int × Int := if rbS s n b = 0 then hdec (newest ws d (1 + b).toNat) b else (zs 32, rbS s n b)
theorem ldS_yes {s : Sup} {n b : Int} (ws : List Wr) (d : List Int) (h : rbS s n b = 0) : ldS s n ws d b = hdec (newest ws d (1 + b).toNat) b := if_pos h
theorem ldS_no {s : Sup} {n b : Int} (ws : List Wr) (d : List Int) (h : ¬ rbS s n b = 0) : ldS s n ws d b = (zs 32, rbS s n b) := if_neg h
theorem ldS_len (s : Sup) (n : Int) (ws : List Wr) (d : List Int) (b : Int) : (ldS s n ws d b).1.length = 32 := by
  by_cases h : rbS s n b = 0
  · rw [ldS_yes ws d h]; exact hdec_len _ _
  · rw [ldS_no ws d h]; exact zs_len 32
theorem ldS_bytes (s : Sup) (n : Nat) (ws : List Wr) (d : List Int) (b : Int) (hd : Bytes d) (hf : Fit n ws) : Bytes (ldS s n ws d b).1 := by
  by_cases h : rbS s n b = 0
  · rw [ldS_yes ws d h]; exact hdec_bytes _ (newk_bytes hd hf _)
  · rw [ldS_no ws d h]; exact zs_bytes 32
/-- the values of the first k blocks -/
def vals (s : Sup) (n : Int) (ws : List Wr) (d : List Int) (k : Nat) : List (List Int) := (List.range k).map fun (i : Nat) => (ldS s n ws d (i : Int)).1
theorem vals_succ (s : Sup) (n : Int) (ws : List Wr) (d : List Int) (k : Nat) : vals s n ws d (k + 1) = vals s n ws d k ++ [(ldS s n ws d (k : Int)).1] := by simp [vals, List.range_succ]
theorem vals_length (s : Sup) (n : Int) (ws : List Wr) (d : List Int) (k : Nat) : (vals s n ws d k).length = k := by simp [vals]
theorem vals_get (s : Sup) (n : Int) (ws : List Wr) (d : List Int) (k i : Nat) (h : i < (vals s n ws d k).length) : (vals s n ws d k)[i] = (ldS s n ws d (i : Int)).1 := by simp [vals]
theorem vals_each (s : Sup) (n : Int) (ws : List Wr) (d : List Int) (k : Nat) : ∀ l ∈ vals s n ws d k, l.length = 32 := fun l hl => by
  obtain ⟨i, _, rfl⟩ := List.mem_map.1 hl
  exact ldS_len _ _ _ _ _
/-- the first k blocks are all read -/
abbrev allB (s : Sup) (n : Int) (ws : List Wr) (d : List Int) (k : Nat) : Prop := (List.range k).all (fun (i : Nat) => decide ((ldS s n ws d (i : Int)).2 = 0)) = true
theorem allB_iff {s : Sup} {n : Int} {ws : List Wr} {d : List Int} {k : Nat} : allB s n ws d k ↔ ∀ i : Nat, i < k → (ldS s n ws d (i : Int)).2 = 0 := by simp [allB]
theorem allB_succ {s : Sup} {n : Int} {ws : List Wr} {d : List Int} {k : Nat} (h : allB s n ws d k) (hk : (ldS s n ws d (k : Int)).2 = 0) : allB s n ws d (k + 1) := allB_iff.2 fun i hi => by
  by_cases c : i < k
  · exact allB_iff.1 h i c
  · obtain rfl : i = k := by omega
    exact hk
def alS (s : Sup) (n : Int) (ws : List Wr) (d : List Int) : List (List Int) × Int := if rfS s n = 0 then (if allB s n ws d s.bl.toNat then (vals s n ws d s.bl.toNat, 0) else ([], 80)) else ([], rfS s n)
theorem alS_no {s : Sup} {n : Int} (ws : List Wr) (d : List Int) (h : ¬ rfS s n = 0) : alS s n ws d = ([], rfS s n) := if_neg h
theorem alS_ok {s : Sup} {n : Int} {ws : List Wr} {d : List Int} (h : rfS s n = 0) (h2 : allB s n ws d s.bl.toNat) : alS s n ws d = (vals s n ws d s.bl.toNat, 0) := by unfold alS; rw [if_pos h, if_pos h2]
theorem alS_bad {s : Sup} {n : Int} {ws : List Wr} {d : List Int} (h : rfS s n = 0) (k : Nat) (hk : k < s.bl.toNat) (h2 : ¬ (ldS s n ws d (k : Int)).2 = 0) : alS s n ws d = ([], 80) := by unfold alS; rw [if_pos h, if_neg (fun a => h2 (allB_iff.1 a k hk))]
theorem alS_each (s : Sup) (n : Int) (ws : List Wr) (d : List Int) : ∀ l ∈ (alS s n ws d).1, l.length = 32 := by
  unfold alS
  split
  · split
    · exact vals_each _ _ _ _ _
    · intro l hl; cases hl
  · intro l hl; cases hl
theorem alS_length (s : Sup) (n : Int) (ws : List Wr) (d : List Int) : (alS s n ws d).1.length ≤ 64 := by
  unfold alS
  split
  · rename_i h
    have := (rfS_zero h).1.1
    split
    · show (vals _ _ _ _ _).length ≤ 64; rw [vals_length]; omega
    · simp
  · simp
/-- a block that is there fails by its bytes alone -/
theorem ldS_err {s : Sup} {n : Nat} {ws : List Wr} {d : List Int} {b : Int} (hd : d.length = 64 * n) (hf : Fit n ws) (hr : rbS s n b = 0) (h : ¬ (ldS s n ws d b).2 = 0) : (ldS s n ws d b).2 = 80 := by
  obtain ⟨h1, h2, h3⟩ := rbS_in hr
  rw [ldS_yes ws d hr] at h ⊢
  have hl : (newest ws d (1 + b).toNat).length = 64 := newk_length hd hf (by omega) _
  rcases hdec_cases (newest ws d (1 + b).toNat) b with ⟨e, c⟩ | ⟨e, _, c⟩ | ⟨e, _⟩ | ⟨e, _⟩
  · exact absurd h1 c
  · exact absurd hl c
  · rw [e] at h; exact absurd rfl h
  · rw [e]
end Go.Proofs.YtefnkjajjidfaaaGreatDoor
