/-
  Plain mathematics of layer 10 (scan): what a disk's log says; the newest image of each block.
-/
import Derived.Test.YtefnkjajjidfaaaGreatDoorWal
import Derived.Test.YtefnkjajjidfaaaGreatDoorHom
namespace Go.Proofs.YtefnkjajjidfaaaGreatDoor

/-- an image; a transaction; what a log says -/
structure Im where
  b : Int
  v : List Int
structure TX where
  p : Int
  ims : List Im
structure LogS where
  tail : Int
  life : Int
  fin : Int
  txs : List TX
def log0 : LogS := ⟨0, 0, 0, []⟩
structure Im.Wf (i : Im) : Prop where
  b : i64 i.b
  len : i.v.length = 32
  byte : Bytes i.v
def ImsWf (l : List Im) : Prop := ∀ i ∈ l, i.Wf
theorem ImsWf.nil : ImsWf [] := fun _ h => by cases h
theorem ImsWf.snoc {l : List Im} (h : ImsWf l) {i : Im} (hi : i.Wf) : ImsWf (l ++ [i]) := fun x hx => by
  rcases List.mem_append.1 hx with hx | hx
  · exact h x hx
  · rw [List.mem_singleton.1 hx]; exact hi
theorem ImsWf.append {l m : List Im} (h : ImsWf l) (k : ImsWf m) : ImsWf (l ++ m) := fun x hx => (List.mem_append.1 hx).elim (h x) (k x)
structure TX.Wf (t : TX) : Prop where
  p : u64 t.p
  ims : ImsWf t.ims
def TxsWf (l : List TX) : Prop := ∀ t ∈ l, t.Wf
theorem TxsWf.nil : TxsWf [] := fun _ h => by cases h
theorem TxsWf.snoc {l : List TX} (h : TxsWf l) {t : TX} (ht : t.Wf) : TxsWf (l ++ [t]) := fun x hx => by
  rcases List.mem_append.1 hx with hx | hx
  · exact h x hx
  · rw [List.mem_singleton.1 hx]; exact ht

/-- what stands at a position; rd: what sectors read -/
abbrev StndsAt (c : Sup) (rd : Nat → List Int) (p : Int) : Prop := (R.decS (rd (1 + c.bl + p % c.lc).toNat)).2 = 0 ∧ (R.decS (rd (1 + c.bl + p % c.lc).toNat)).1.pos = p ∧ (R.decS (rd (1 + c.bl + p % c.lc).toNat)).1.block < c.bl
def stS (c : Sup) (rd : Nat → List Int) (p : Int) : R.Rec × Bool :=
  if StndsAt c rd p then ((R.decS (rd (1 + c.bl + p % c.lc).toNat)).1, true) else (R.rec0, false)
theorem stS_yes {c : Sup} {rd : Nat → List Int} {p : Int} (h : StndsAt c rd p) : stS c rd p = ((R.decS (rd (1 + c.bl + p % c.lc).toNat)).1, true) := if_pos h
theorem stS_no {c : Sup} {rd : Nat → List Int} {p : Int} (h : ¬ StndsAt c rd p) : stS c rd p = (R.rec0, false) := if_neg h
theorem stS_wf {c : Sup} {rd : Nat → List Int} {p : Int} (hb : ∀ i, Bytes (rd i)) : (stS c rd p).1.Wf := by
  by_cases h : StndsAt c rd p
  · rw [stS_yes h]; exact R.decS_wf _ (hb _)
  · rw [stS_no h]; exact R.rec0_wf
theorem stS_good {c : Sup} {rd : Nat → List Int} {p : Int} (h : (stS c rd p).2 = true) : R.may (stS c rd p).1 = true ∧ (stS c rd p).1.pos = p ∧ (stS c rd p).1.block < c.bl := by
  by_cases h1 : StndsAt c rd p
  · rw [stS_yes h1]; exact ⟨(R.decS_good _ h1.1).1, h1.2.1, h1.2.2⟩
  · rw [stS_no h1] at h; cases h
/-- may an image of that block come behind these -/
def lastB (l : List Im) : Int := (l.getD (l.length - 1) ⟨0, []⟩).b
abbrev Folls (l : List Im) (b mr : Int) : Prop := (l.length : Int) < mr ∧ (l.length = 0 ∨ lastB l < b)
theorem lastB_snoc (l : List Im) (i : Im) : lastB (l ++ [i]) = i.b := by simp [lastB]
/-- the looking -/
structure Sc where
  txs : List TX
  fin : Int
  come : List Im
def scStep (mr : Int) (s : Sc) (p : Int) (r : R.Rec) : Option Sc :=
  if r.kind = 1 ∧ Folls s.come r.block mr then some ⟨s.txs, s.fin, s.come ++ [⟨r.block, r.val⟩]⟩
  else if r.kind = 2 ∧ r.images = s.come.length then some ⟨s.txs ++ [⟨p, s.come⟩], p + 1, []⟩ else none
theorem scStep_img {mr : Int} {s : Sc} {p : Int} {r : R.Rec} (h : r.kind = 1 ∧ Folls s.come r.block mr) : scStep mr s p r = some ⟨s.txs, s.fin, s.come ++ [⟨r.block, r.val⟩]⟩ := if_pos h
theorem scStep_com {mr : Int} {s : Sc} {p : Int} {r : R.Rec} (h : r.kind = 2 ∧ r.images = s.come.length) : scStep mr s p r = some ⟨s.txs ++ [⟨p, s.come⟩], p + 1, []⟩ := by
  unfold scStep; rw [if_neg (fun e => by have := h.1; have := e.1; omega), if_pos h]
theorem scStep_no {mr : Int} {s : Sc} {p : Int} {r : R.Rec} (h : ¬ (r.kind = 1 ∧ Folls s.come r.block mr)) (h2 : ¬ (r.kind = 2 ∧ r.images = s.come.length)) : scStep mr s p r = none := by
  unfold scStep; rw [if_neg h, if_neg h2]
def scRun (st : Int → R.Rec × Bool) (mr : Int) : Nat → Int → Sc → Sc
  | 0, _, s => s
  | k + 1, p, s => if (st p).2 = true then (match scStep mr s p (st p).1 with
      | some s' => scRun st mr k (p + 1) s'
      | none => s) else s
theorem scRun_zero (st : Int → R.Rec × Bool) (mr p : Int) (s : Sc) : scRun st mr 0 p s = s := rfl
theorem scRun_off {st : Int → R.Rec × Bool} {mr : Int} {k : Nat} {p : Int} {s : Sc} (h : (st p).2 = false) : scRun st mr k p s = s := by
  cases k with
  | zero => rfl
  | succ k => unfold scRun; rw [if_neg (by rw [h]; decide)]
theorem scRun_stop {st : Int → R.Rec × Bool} {mr : Int} {k : Nat} {p : Int} {s : Sc} (h2 : scStep mr s p (st p).1 = none) : scRun st mr k p s = s := by
  cases k with
  | zero => rfl
  | succ k =>
    unfold scRun
    by_cases h : (st p).2 = true
    · rw [if_pos h, h2]
    · rw [if_neg h]
theorem scRun_go {st : Int → R.Rec × Bool} {mr : Int} {k : Nat} {p : Int} {s s' : Sc} (h : (st p).2 = true) (h2 : scStep mr s p (st p).1 = some s') : scRun st mr (k + 1) p s = scRun st mr k (p + 1) s' := by
  show (if (st p).2 = true then _ else _) = _
  rw [if_pos h, h2]
/-- what stands while it looks: n rounds behind t -/
structure Sc.Ok (mr t : Int) (n : Nat) (s : Sc) : Prop where
  f0 : t ≤ s.fin
  f1 : s.fin ≤ t + n
  tl : s.txs.length ≤ n
  cl : (s.come.length : Int) ≤ mr
  tw : TxsWf s.txs
  cw : ImsWf s.come
  ps : ∀ x ∈ s.txs, t ≤ x.p ∧ x.p < t + n
  up : s.txs.Pairwise (fun x y => x.p < y.p)
  cm : ∀ x ∈ s.txs, (x.ims.length : Int) ≤ mr
theorem Sc.Ok.start {mr : Int} (h : 0 ≤ mr) (t : Int) : Sc.Ok mr t 0 ⟨[], t, []⟩ :=
  ⟨Int.le_refl _, by show t ≤ t + ((0 : Nat) : Int); omega, Nat.le_refl _, h, TxsWf.nil, ImsWf.nil, fun x hx => (by cases hx), List.Pairwise.nil, fun x hx => (by cases hx)⟩
theorem Sc.Ok.more {mr t : Int} {n m : Nat} {s : Sc} (h : Sc.Ok mr t n s) (hm : n ≤ m) : Sc.Ok mr t m s :=
  ⟨h.f0, by have := h.f1; omega, Nat.le_trans h.tl hm, h.cl, h.tw, h.cw, fun x hx => ⟨(h.ps x hx).1, by have := (h.ps x hx).2; omega⟩, h.up, h.cm⟩
theorem Sc.Ok.step {mr t : Int} {n : Nat} {s s' : Sc} (h : Sc.Ok mr t n s) (hm : 0 ≤ mr) (ht : 0 ≤ t) (hM : t + n ≤ 18446744073709551615) {p : Int} (hp : p = t + n) {r : R.Rec} (hw : r.Wf) (e : scStep mr s p r = some s') : Sc.Ok mr t (n + 1) s' := by
  subst hp
  have h0 := h.f0; have h1 := h.f1; have h2 := h.tl
  by_cases c1 : r.kind = 1 ∧ Folls s.come r.block mr
  · rw [scStep_img c1] at e
    cases e
    have := h.more (Nat.le_succ n)
    refine ⟨this.f0, this.f1, this.tl, ?_, this.tw, h.cw.snoc ⟨⟨hw.b0, hw.b1⟩, hw.len, hw.byte⟩, this.ps, this.up, this.cm⟩
    have := c1.2.1
    simp only [List.length_append, List.length_singleton]; omega
  · by_cases c2 : r.kind = 2 ∧ r.images = s.come.length
    · rw [scStep_com c2] at e
      cases e
      refine ⟨by show t ≤ t + n + 1; omega, by show t + n + 1 ≤ t + ((n + 1 : Nat) : Int); omega, by simp only [List.length_append, List.length_singleton]; omega, hm, h.tw.snoc ⟨⟨by show 0 ≤ t + n; omega, hM⟩, h.cw⟩, ImsWf.nil, fun x hx => ?_, ?_, fun x hx => ?_⟩
      · rcases List.mem_append.1 hx with hx | hx
        · have := h.ps x hx; omega
        · rw [List.mem_singleton.1 hx]; show t ≤ t + n ∧ t + n < t + ((n + 1 : Nat) : Int); omega
      · refine List.pairwise_append.2 ⟨h.up, List.pairwise_singleton _ _, fun x hx y hy => ?_⟩
        rw [List.mem_singleton.1 hy]; exact (h.ps x hx).2
      · rcases List.mem_append.1 hx with hx | hx
        · exact h.cm x hx
        · rw [List.mem_singleton.1 hx]; exact h.cl
    · rw [scStep_no c1 c2] at e; cases e
theorem Sc.Ok.run {st : Int → R.Rec × Bool} {mr t : Int} (hm : 0 ≤ mr) (ht : 0 ≤ t) (hw : ∀ p, (st p).1.Wf) : ∀ (k n : Nat) (s : Sc), Sc.Ok mr t n s → t + n + k ≤ 18446744073709551615 → Sc.Ok mr t (n + k) (scRun st mr k (t + n) s)
  | 0, n, s, h, _ => h
  | k + 1, n, s, h, hM => by
    by_cases c : (st (t + n)).2 = true
    · cases e : scStep mr s (t + n) (st (t + n)).1 with
      | none => rw [scRun_stop e]; exact h.more (by omega)
      | some s' =>
        rw [scRun_go c e]
        have := Sc.Ok.run hm ht hw k (n + 1) s' (h.step hm ht (by omega) rfl (hw _) e) (by omega)
        rw [show n + (k + 1) = n + 1 + k by omega]
        rw [show t + n + 1 = t + ((n + 1 : Nat) : Int) by omega]
        exact this
    · rw [scRun_off (by simpa using c)]; exact h.more (by omega)
/-- what Read answers, of a disk of n sectors -/
abbrev SameC (s c : Sup) : Prop := s.bl = c.bl ∧ s.lc = c.lc ∧ s.mr = c.mr ∧ s.hi = c.hi ∧ s.cl = c.cl
def supOf (c : Sup) (n : Int) (rd : Nat → List Int) : Sup × Int :=
  if MayC c then (if n = 1 + c.bl + c.lc then (if (decS (rd 0)).2 = 0 then (if SameC (decS (rd 0)).1 c then ((decS (rd 0)).1, 0) else (sup0, 3)) else (sup0, (decS (rd 0)).2)) else (sup0, 40)) else (sup0, 3)
theorem supOf_no {c : Sup} (n : Int) (rd : Nat → List Int) (h : ¬ MayC c) : supOf c n rd = (sup0, 3) := if_neg h
theorem supOf_len {c : Sup} {n : Int} (rd : Nat → List Int) (h : MayC c) (hn : ¬ n = 1 + c.bl + c.lc) : supOf c n rd = (sup0, 40) := by unfold supOf; rw [if_pos h, if_neg hn]
theorem supOf_bad {c : Sup} {n : Int} {rd : Nat → List Int} (h : MayC c) (hn : n = 1 + c.bl + c.lc) (he : ¬ (decS (rd 0)).2 = 0) : supOf c n rd = (sup0, (decS (rd 0)).2) := by unfold supOf; rw [if_pos h, if_pos hn, if_neg he]
theorem supOf_other {c : Sup} {n : Int} {rd : Nat → List Int} (h : MayC c) (hn : n = 1 + c.bl + c.lc) (he : (decS (rd 0)).2 = 0) (hs : ¬ SameC (decS (rd 0)).1 c) : supOf c n rd = (sup0, 3) := by unfold supOf; rw [if_pos h, if_pos hn, if_pos he, if_neg hs]
theorem supOf_ok {c : Sup} {n : Int} {rd : Nat → List Int} (h : MayC c) (hn : n = 1 + c.bl + c.lc) (he : (decS (rd 0)).2 = 0) (hs : SameC (decS (rd 0)).1 c) : supOf c n rd = ((decS (rd 0)).1, 0) := by unfold supOf; rw [if_pos h, if_pos hn, if_pos he, if_pos hs]
theorem supOf_zero {c : Sup} {n : Int} {rd : Nat → List Int} (h : (supOf c n rd).2 = 0) : MayC c ∧ n = 1 + c.bl + c.lc ∧ (decS (rd 0)).2 = 0 ∧ SameC (decS (rd 0)).1 c ∧ supOf c n rd = ((decS (rd 0)).1, 0) := by
  by_cases h1 : MayC c
  · by_cases h2 : n = 1 + c.bl + c.lc
    · by_cases h3 : (decS (rd 0)).2 = 0
      · by_cases h4 : SameC (decS (rd 0)).1 c
        · exact ⟨h1, h2, h3, h4, supOf_ok h1 h2 h3 h4⟩
        · rw [supOf_other h1 h2 h3 h4] at h; cases h
      · rw [supOf_bad h1 h2 h3] at h; exact absurd h h3
    · rw [supOf_len rd h1 h2] at h; cases h
  · rw [supOf_no n rd h1] at h; cases h
theorem supOf_err {c : Sup} {n : Int} {rd : Nat → List Int} (h : ¬ (supOf c n rd).2 = 0) : (supOf c n rd).1 = sup0 := by
  by_cases h1 : MayC c
  · by_cases h2 : n = 1 + c.bl + c.lc
    · by_cases h3 : (decS (rd 0)).2 = 0
      · by_cases h4 : SameC (decS (rd 0)).1 c
        · rw [supOf_ok h1 h2 h3 h4] at h; exact absurd rfl h
        · rw [supOf_other h1 h2 h3 h4]
      · rw [supOf_bad h1 h2 h3]
    · rw [supOf_len rd h1 h2]
  · rw [supOf_no n rd h1]
def scanS (c : Sup) (rd : Nat → List Int) (s : Sup) : LogS :=
  ⟨s.tail, s.life, (scRun (stS c rd) c.mr c.lc.toNat s.tail ⟨[], s.tail, []⟩).fin, (scRun (stS c rd) c.mr c.lc.toNat s.tail ⟨[], s.tail, []⟩).txs⟩
def rdL (c : Sup) (n : Int) (rd : Nat → List Int) : LogS × Int :=
  if (supOf c n rd).2 = 0 then (scanS c rd (supOf c n rd).1, 0) else (log0, (supOf c n rd).2)
theorem rdL_ok {c : Sup} {n : Int} {rd : Nat → List Int} (h : (supOf c n rd).2 = 0) : rdL c n rd = (scanS c rd (supOf c n rd).1, 0) := if_pos h
theorem rdL_no {c : Sup} {n : Int} {rd : Nat → List Int} (h : ¬ (supOf c n rd).2 = 0) : rdL c n rd = (log0, (supOf c n rd).2) := if_neg h
structure LogS.Wf (l : LogS) : Prop where
  t : u64 l.tail
  lf : u64 l.life
  f : u64 l.fin
  tx : TxsWf l.txs
  n : l.txs.length ≤ 64
  m : ∀ x ∈ l.txs, x.ims.length ≤ 16
theorem log0_wf : log0.Wf := ⟨by decide, by decide, by decide, TxsWf.nil, Nat.zero_le _, fun x hx => by cases hx⟩
theorem scanS_ok {c : Sup} {n : Int} {rd : Nat → List Int} (hb : ∀ i, Bytes (rd i)) (h : (supOf c n rd).2 = 0) : Sc.Ok c.mr (supOf c n rd).1.tail c.lc.toNat (scRun (stS c rd) c.mr c.lc.toNat (supOf c n rd).1.tail ⟨[], (supOf c n rd).1.tail, []⟩) := by
  obtain ⟨h1, h2, h3, h4, h5⟩ := supOf_zero h
  have hm := (decS_good _ h3).1
  have hw := decS_wf _ (hb 0)
  rw [h5]
  have ht := hw.tail
  have hT := hm.2.1
  have := Sc.Ok.run (st := stS c rd) (mr := c.mr) (t := (decS (rd 0)).1.tail) (by have := h1.2.2.1.1; omega) ht.1 (fun p => stS_wf hb) c.lc.toNat 0 ⟨[], (decS (rd 0)).1.tail, []⟩ (Sc.Ok.start (by have := h1.2.2.1.1; omega) _) (by have := h1.2.1.2; omega)
  rw [show (decS (rd 0)).1.tail + ((0 : Nat) : Int) = (decS (rd 0)).1.tail by omega, Nat.zero_add] at this
  exact this
theorem rdL_wf {c : Sup} {n : Int} {rd : Nat → List Int} (hb : ∀ i, Bytes (rd i)) : (rdL c n rd).1.Wf := by
  by_cases h : (supOf c n rd).2 = 0
  · rw [rdL_ok h]
    obtain ⟨h1, h2, h3, h4, h5⟩ := supOf_zero h
    have k : Sc.Ok c.mr (decS (rd 0)).1.tail c.lc.toNat (scRun (stS c rd) c.mr c.lc.toNat (decS (rd 0)).1.tail ⟨[], (decS (rd 0)).1.tail, []⟩) := by
      have := scanS_ok hb h
      rw [h5] at this
      exact this
    have hm := (decS_good _ h3).1
    have hw := decS_wf _ (hb 0)
    rw [h5]
    show (scanS c rd (decS (rd 0)).1).Wf
    have ht := hw.tail; have hT := hm.2.1; have hl := hw.life
    have hlc := h1.2.1
    have hmr := h1.2.2.1
    refine ⟨ht, hl, ⟨by have := k.f0; show 0 ≤ (scRun _ _ _ _ _).fin; omega, by have := k.f1; show (scRun _ _ _ _ _).fin ≤ _; omega⟩, k.tw, by have := k.tl; show (scRun _ _ _ _ _).txs.length ≤ _; omega, fun x hx => by have := k.cm x hx; omega⟩
  · rw [rdL_no h]; exact log0_wf
end Go.Proofs.YtefnkjajjidfaaaGreatDoor
