/-
  Plain mathematics of layer 9 (wal): a log, what its calls answer and leave.
-/
import Derived.Test.YtefnkjajjidfaaaGreatDoorSup
import Derived.Test.YtefnkjajjidfaaaGreatDoorDMath
import Derived.Test.YtefnkjajjidfaaaGreatDoorRRec
import Derived.Test.YtefnkjajjidfaaaGreatDoorGMath
namespace Go.Proofs.YtefnkjajjidfaaaGreatDoor

/-- a log: its configuration (whose tail and life are not asked), its life, Tail, End, the mark, how many images, the last one's block -/
structure Lg where
  c : Sup
  life : Int
  tail : Int
  fin : Int
  mark : Int
  imgs : Int
  last : Int
structure Lg.Ok (g : Lg) : Prop where
  cf : MayC g.c
  l0 : 1 ≤ g.life
  l1 : g.life ≤ 4611686018427387904
  t0 : 0 ≤ g.tail
  tm : g.tail ≤ g.mark
  mf : g.mark ≤ g.fin
  fM : g.fin ≤ 4611686018427387904
  us : g.fin - g.tail ≤ g.c.lc
  i0 : 0 ≤ g.imgs
  i1 : g.imgs ≤ g.c.mr
  b0 : -1 ≤ g.last
  b1 : g.last < g.c.bl
  il : (g.imgs = 0 ∧ g.last = -1) ∨ (1 ≤ g.imgs ∧ 0 ≤ g.last)
/-- how many sectors its disk has -/
def Lg.sz (g : Lg) : Nat := 1 + g.c.bl.toNat + g.c.lc.toNat
theorem Lg.Ok.sz_is {g : Lg} (h : g.Ok) : ((g.sz : Nat) : Int) = 1 + g.c.bl + g.c.lc := by
  have := h.cf.1; have := h.cf.2.1; unfold Lg.sz; omega
def moreS (g : Lg) : Int := if g.fin = 4611686018427387904 then 31 else if g.fin - g.tail = g.c.lc then 90 else 0
theorem moreS_max {g : Lg} (h : g.fin = 4611686018427387904) : moreS g = 31 := if_pos h
theorem moreS_full {g : Lg} (h : ¬ g.fin = 4611686018427387904) (h2 : g.fin - g.tail = g.c.lc) : moreS g = 90 := by unfold moreS; rw [if_neg h, if_pos h2]
theorem moreS_ok {g : Lg} (h : ¬ g.fin = 4611686018427387904) (h2 : ¬ g.fin - g.tail = g.c.lc) : moreS g = 0 := by unfold moreS; rw [if_neg h, if_neg h2]
theorem moreS_zero {g : Lg} (h : moreS g = 0) : ¬ g.fin = 4611686018427387904 ∧ ¬ g.fin - g.tail = g.c.lc := by
  by_cases h1 : g.fin = 4611686018427387904
  · rw [moreS_max h1] at h; cases h
  · by_cases h2 : g.fin - g.tail = g.c.lc
    · rw [moreS_full h1 h2] at h; cases h
    · exact ⟨h1, h2⟩
/-- the sector of a position -/
def secN (g : Lg) (p : Int) : Int := 1 + g.c.bl + p % g.c.lc
theorem secN_in {g : Lg} (h : g.Ok) (p : Int) : 0 ≤ secN g p ∧ secN g p < (g.sz : Nat) := by
  have h1 := h.cf.1; have h2 := h.cf.2.1; have h3 := h.sz_is
  have h4 := Int.emod_nonneg p (show g.c.lc ≠ 0 by omega)
  have h5 := Int.emod_lt_of_pos p (show 0 < g.c.lc by omega)
  unfold secN; omega
abbrev Bad (g : Lg) (b : Int) : Prop := b ≤ g.last ∨ g.c.bl ≤ b ∨ g.c.mr ≤ g.imgs
def imgS (g : Lg) (b : Int) : Int := if moreS g = 0 then (if Bad g b then 60 else 0) else moreS g
theorem imgS_more {g : Lg} (b : Int) (h : ¬ moreS g = 0) : imgS g b = moreS g := if_neg h
theorem imgS_bad {g : Lg} {b : Int} (h : moreS g = 0) (hb : Bad g b) : imgS g b = 60 := by unfold imgS; rw [if_pos h, if_pos hb]
theorem imgS_ok {g : Lg} {b : Int} (h : moreS g = 0) (hb : ¬ Bad g b) : imgS g b = 0 := by unfold imgS; rw [if_pos h, if_neg hb]
theorem imgS_zero {g : Lg} {b : Int} (h : imgS g b = 0) : moreS g = 0 ∧ ¬ Bad g b := by
  by_cases h1 : moreS g = 0
  · by_cases h2 : Bad g b
    · rw [imgS_bad h1 h2] at h; cases h
    · exact ⟨h1, h2⟩
  · rw [imgS_more b h1] at h; exact absurd h h1
def imgR (g : Lg) (b : Int) (v : List Int) : R.Rec := ⟨1, g.fin, b, v, 0⟩
def comR (g : Lg) : R.Rec := ⟨2, g.fin, 0, R.zs 32, g.imgs⟩
def addG (g : Lg) : Lg := { g with fin := g.fin + 1 }
def imgG (g : Lg) (b : Int) : Lg := { g with fin := g.fin + 1, imgs := g.imgs + 1, last := b }
def comG (g : Lg) : Lg := { g with fin := g.fin + 1, imgs := 0, last := -1 }
def supL (g : Lg) (t : Int) : Sup := ⟨g.c.bl, g.c.lc, g.c.mr, g.c.hi, g.c.cl, t, g.life⟩
def mkG (g : Lg) (t : Int) : Lg := { g with mark := t }
def frG (g : Lg) : Lg := { g with tail := g.mark }
abbrev Out (g : Lg) (t : Int) : Prop := t < g.tail ∨ g.fin < t
def mkS (g : Lg) (t : Int) : Int := if Out g t then 2 else 0
theorem imgR_may {g : Lg} (h : g.Ok) {b : Int} {v : List Int} (hb : ¬ Bad g b) : R.may (imgR g b v) = true := by
  have h1 := h.cf.1; have := h.b0; have := h.fM
  exact (R.may_iff _).2 ⟨h.fM, .inl ⟨rfl, by show (0 : Int) ≤ b; omega, by show b < 64; omega, rfl⟩⟩
theorem imgR_wf {g : Lg} (h : g.Ok) {b : Int} {v : List Int} (hb : ¬ Bad g b) (hl : v.length = 32) (hv : Bytes v) : (imgR g b v).Wf := by
  have h1 := h.cf.1; have := h.b0; have := h.fM; have := h.t0; have := h.tm; have := h.mf
  refine ⟨?_, ?_, ?_, ?_, ?_, ?_, ?_, ?_, hl, hv⟩ <;> simp only [imgR] <;> omega
theorem comR_may {g : Lg} (h : g.Ok) : R.may (comR g) = true := by
  have h1 := h.cf.2.2.1; have := h.i0; have := h.i1; have := h.fM
  exact (R.may_iff _).2 ⟨h.fM, .inr ⟨rfl, h.i0, by show g.imgs ≤ 16; omega, rfl, rfl⟩⟩
theorem comR_wf {g : Lg} (h : g.Ok) : (comR g).Wf := by
  have h1 := h.cf.2.2.1; have := h.i0; have := h.i1; have := h.fM; have := h.t0; have := h.tm; have := h.mf
  refine ⟨?_, ?_, ?_, ?_, ?_, ?_, ?_, ?_, R.zs_len 32, R.zs_bytes 32⟩ <;> simp only [comR] <;> omega
theorem imgG_ok {g : Lg} (h : g.Ok) {b : Int} (h0 : imgS g b = 0) : (imgG g b).Ok := by
  obtain ⟨hm, hb⟩ := imgS_zero h0
  obtain ⟨m1, m2⟩ := moreS_zero hm
  have := h.b0; have := h.fM; have := h.us; have := h.mf; have := h.i0; have := h.i1
  refine ⟨h.cf, h.l0, h.l1, h.t0, h.tm, ?_, ?_, ?_, ?_, ?_, ?_, ?_, ?_⟩ <;> simp only [imgG] <;> omega
theorem comG_ok {g : Lg} (h : g.Ok) (hm : moreS g = 0) : (comG g).Ok := by
  obtain ⟨m1, m2⟩ := moreS_zero hm
  have := h.cf.1; have := h.cf.2.2.1; have := h.fM; have := h.us; have := h.mf
  refine ⟨h.cf, h.l0, h.l1, h.t0, h.tm, ?_, ?_, ?_, ?_, ?_, ?_, ?_, .inl ⟨rfl, rfl⟩⟩ <;> simp only [comG] <;> omega
theorem mkG_ok {g : Lg} (h : g.Ok) {t : Int} (ht : ¬ Out g t) : (mkG g t).Ok := by
  refine ⟨h.cf, h.l0, h.l1, h.t0, ?_, ?_, h.fM, h.us, h.i0, h.i1, h.b0, h.b1, h.il⟩ <;> simp only [mkG] <;> omega
theorem frG_ok {g : Lg} (h : g.Ok) : (frG g).Ok := by
  have := h.t0; have := h.tm; have := h.mf; have := h.us
  refine ⟨h.cf, h.l0, h.l1, ?_, ?_, h.mf, h.fM, ?_, h.i0, h.i1, h.b0, h.b1, h.il⟩ <;> simp only [frG] <;> omega
theorem supL_may {g : Lg} (h : g.Ok) {t : Int} (ht : ¬ Out g t) : May (supL g t) := by
  have := h.fM; have := h.l0; have := h.l1
  exact ⟨h.cf, by show t ≤ _; omega, h.l0, h.l1⟩
theorem supL_wf {g : Lg} (h : g.Ok) {t : Int} (ht : ¬ Out g t) : (supL g t).Wf := by
  have h1 := h.cf; have := h.fM; have := h.l0; have := h.l1; have := h.t0
  refine ⟨?_, ?_, ?_, ?_, ?_, ?_, ?_⟩ <;> simp only [supL] <;> constructor <;> omega
/-- what Read answers; R: what the sectors read -/
abbrev Outr (g : Lg) (p : Int) : Prop := p < g.tail ∨ g.fin ≤ p
def rdS (g : Lg) (N : Nat → List Int) (p : Int) : R.Rec × Int :=
  if Outr g p then (R.rec0, 30) else if (R.decS (N (secN g p).toNat)).2 = 0 then (if (R.decS (N (secN g p).toNat)).1.pos = p then ((R.decS (N (secN g p).toNat)).1, 0) else (R.rec0, 60)) else (R.rec0, (R.decS (N (secN g p).toNat)).2)
theorem rdS_out {g : Lg} (N : Nat → List Int) {p : Int} (h : Outr g p) : rdS g N p = (R.rec0, 30) := if_pos h
theorem rdS_err {g : Lg} {N : Nat → List Int} {p : Int} (h : ¬ Outr g p) (he : ¬ (R.decS (N (secN g p).toNat)).2 = 0) : rdS g N p = (R.rec0, (R.decS (N (secN g p).toNat)).2) := by unfold rdS; rw [if_neg h, if_neg he]
theorem rdS_other {g : Lg} {N : Nat → List Int} {p : Int} (h : ¬ Outr g p) (he : (R.decS (N (secN g p).toNat)).2 = 0) (hp : ¬ (R.decS (N (secN g p).toNat)).1.pos = p) : rdS g N p = (R.rec0, 60) := by unfold rdS; rw [if_neg h, if_pos he, if_neg hp]
theorem rdS_ok {g : Lg} {N : Nat → List Int} {p : Int} (h : ¬ Outr g p) (he : (R.decS (N (secN g p).toNat)).2 = 0) (hp : (R.decS (N (secN g p).toNat)).1.pos = p) : rdS g N p = ((R.decS (N (secN g p).toNat)).1, 0) := by unfold rdS; rw [if_neg h, if_pos he, if_pos hp]
theorem rdS_wf {g : Lg} {N : Nat → List Int} {p : Int} (hN : Bytes (N (secN g p).toNat)) : (rdS g N p).1.Wf := by
  by_cases h : Outr g p
  · rw [rdS_out N h]; exact R.rec0_wf
  · by_cases he : (R.decS (N (secN g p).toNat)).2 = 0
    · by_cases hp : (R.decS (N (secN g p).toNat)).1.pos = p
      · rw [rdS_ok h he hp]; exact R.decS_wf _ hN
      · rw [rdS_other h he hp]; exact R.rec0_wf
    · rw [rdS_err h he]; exact R.rec0_wf
theorem rdS_pos {g : Lg} {N : Nat → List Int} {p : Int} (h0 : (rdS g N p).2 = 0) : (rdS g N p).1.pos = p ∧ ¬ Outr g p := by
  by_cases h : Outr g p
  · rw [rdS_out N h] at h0; cases h0
  · by_cases he : (R.decS (N (secN g p).toNat)).2 = 0
    · by_cases hp : (R.decS (N (secN g p).toNat)).1.pos = p
      · rw [rdS_ok h he hp]; exact ⟨hp, h⟩
      · rw [rdS_other h he hp] at h0; cases h0
    · rw [rdS_err h he] at h0; exact absurd h0 he
/-- Open -/
def opnG (s : Sup) (t l : Int) : Lg := ⟨s, l, t, t, t, 0, -1⟩
def opnS (s : Sup) (n : Int) (t l : Int) : Int := if MayC s then (if n = 1 + s.bl + s.lc then (if t > 4611686018427387904 ∨ l > 4611686018427387904 then 31 else if l = 0 then 2 else 0) else 40) else 3
theorem opnS_no {s : Sup} (n t l : Int) (h : ¬ MayC s) : opnS s n t l = 3 := if_neg h
theorem opnS_len {s : Sup} {n : Int} (t l : Int) (h : MayC s) (hn : ¬ n = 1 + s.bl + s.lc) : opnS s n t l = 40 := by unfold opnS; rw [if_pos h, if_neg hn]
theorem opnS_wrap {s : Sup} {n t l : Int} (h : MayC s) (hn : n = 1 + s.bl + s.lc) (ht : t > 4611686018427387904 ∨ l > 4611686018427387904) : opnS s n t l = 31 := by unfold opnS; rw [if_pos h, if_pos hn, if_pos ht]
theorem opnS_life {s : Sup} {n t l : Int} (h : MayC s) (hn : n = 1 + s.bl + s.lc) (ht : ¬ (t > 4611686018427387904 ∨ l > 4611686018427387904)) (hl : l = 0) : opnS s n t l = 2 := by unfold opnS; rw [if_pos h, if_pos hn, if_neg ht, if_pos hl]
theorem opnS_ok {s : Sup} {n t l : Int} (h : MayC s) (hn : n = 1 + s.bl + s.lc) (ht : ¬ (t > 4611686018427387904 ∨ l > 4611686018427387904)) (hl : ¬ l = 0) : opnS s n t l = 0 := by unfold opnS; rw [if_pos h, if_pos hn, if_neg ht, if_neg hl]
theorem opnS_zero {s : Sup} {n t l : Int} (h : opnS s n t l = 0) : MayC s ∧ n = 1 + s.bl + s.lc ∧ t ≤ 4611686018427387904 ∧ l ≤ 4611686018427387904 ∧ l ≠ 0 := by
  by_cases h1 : MayC s
  · by_cases h2 : n = 1 + s.bl + s.lc
    · by_cases h3 : t > 4611686018427387904 ∨ l > 4611686018427387904
      · rw [opnS_wrap h1 h2 h3] at h; cases h
      · by_cases h4 : l = 0
        · rw [opnS_life h1 h2 h3 h4] at h; cases h
        · exact ⟨h1, h2, by omega, by omega, h4⟩
    · rw [opnS_len t l h1 h2] at h; cases h
  · rw [opnS_no n t l h1] at h; cases h
theorem opnG_ok {s : Sup} {n t l : Int} (h : opnS s n t l = 0) (ht : 0 ≤ t) (hl : 0 ≤ l) : (opnG s t l).Ok := by
  obtain ⟨h1, h2, h3, h4, h5⟩ := opnS_zero h
  refine ⟨h1, ?_, ?_, ?_, ?_, ?_, ?_, ?_, ?_, ?_, ?_, ?_, .inl ⟨rfl, rfl⟩⟩ <;> simp only [opnG] <;> omega
/-- what All gives, from a position on, at most so many -/
def allR (rd : Int → R.Rec × Int) (p : Int) : Nat → List R.Rec
  | 0 => []
  | k + 1 => if (rd p).2 = 0 then (rd p).1 :: allR rd (p + 1) k else []
def allS (g : Lg) (N : Nat → List Int) : List R.Rec := allR (rdS g N) g.tail (g.fin - g.tail).toNat
end Go.Proofs.YtefnkjajjidfaaaGreatDoor
