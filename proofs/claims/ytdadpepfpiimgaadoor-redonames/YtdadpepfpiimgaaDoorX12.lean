import Derived.Test.YtdadpepfpiimgaaDoorX09
import Derived.Test.YtdadpepfpiimgaaDoorX11
import Derived.Deep.CutBlock
set_option maxHeartbeats 20000000
set_option maxRecDepth 100000
namespace Go.Proofs.YtdadpepfpiimgaaDoor.Q
open Go.RowKit
structure Rc where
  c : Sup
  st : Int
  en : Int
  li : Int
  left : List Im
structure Rw where
  kind : Int
  block : Int
  val : List Int
  pos : Int
  count : Int
def rw0 : Rw := ⟨0, 0, zs 32, 0, 0⟩
structure Dd where
  d : List Int
  ws : List Wr
abbrev Dd.rd (D : Dd) : Nat → List Int := newest D.ws D.d
def Dd.fls (D : Dd) : Dd := ⟨settle (fun _ => true) D.ws D.d, []⟩
def Dd.wr (D : Dd) (i : Nat) (b : List Int) : Dd := ⟨D.d, D.ws ++ [⟨i, b⟩]⟩
structure Dd.Ok (n : Nat) (D : Dd) : Prop where
  n1 : 1 ≤ n
  n2 : n ≤ 4096
  dl : D.d.length = 64 * n
  db : Bytes D.d
  fit : Fit n D.ws
theorem Dd.Ok.bytes {n : Nat} {D : Dd} (h : D.Ok n) (i : Nat) : Bytes (D.rd i) := newk_bytes h.db h.fit _
def supN (x : Rc) : Sup := ⟨x.c.bl, x.c.lc, x.c.mr, x.c.hi, x.c.cl, x.en + x.c.lc, x.li + 1⟩
def aftS (l : List Im) : Int := if l.length = 0 then 3 else 2
def lgS (n : Int) (c : Sup) (D : Dd) : LogS := (rdL c n D.rd).1
abbrev wrapS (c : Sup) (l : LogS) : Prop := 4611686018427387904 < l.fin + c.lc ∨ 4611686018427387904 < l.life + 1
def rdE (n : Int) (c : Sup) (D : Dd) : Int := if (rdL c n D.rd).2 = 0 then (if wrapS c (lgS n c D) then 31 else 0) else (rdL c n D.rd).2
def readR (n : Int) (x : Rc) (D : Dd) : Rc := ⟨x.c, aftS (nwS (flat (lgS n x.c D).txs)), (lgS n x.c D).fin, (lgS n x.c D).life, nwS (flat (lgS n x.c D).txs)⟩
structure Ans where
  row : Rw
  err : Int
  x : Rc
  D : Dd
def stepS (n : Int) (x : Rc) (D : Dd) : Ans :=
  if x.st = 1 then (if rdE n x.c D = 0 then ⟨⟨19, -1, zs 32, (lgS n x.c D).fin, (lgS n x.c D).txs.length⟩, 0, readR n x D, D⟩ else ⟨rw0, rdE n x.c D, x, D⟩)
  else if x.st = 2 then (match x.left with
    | [] => ⟨rw0, 0, x, D⟩
    | i :: r => ⟨⟨15, i.b, i.v, 0, 0⟩, 0, { x with st := aftS r, left := r }, D.wr (1 + i.b).toNat (homeS i.b i.v)⟩)
  else if x.st = 3 then ⟨⟨12, -1, zs 32, 0, D.ws.length⟩, 0, { x with st := 4 }, D.fls⟩
  else if x.st = 4 then ⟨⟨16, -1, zs 32, x.en + x.c.lc, 0⟩, 0, { x with st := 5 }, D.wr 0 (encS (supN x))⟩
  else if x.st = 5 then ⟨⟨20, -1, zs 32, x.en + x.c.lc, 0⟩, 0, { x with st := 6 }, D.fls⟩
  else ⟨rw0, 190, x, D⟩
section
variable {n : Int} {x : Rc} {D : Dd}
theorem step_bad (h : x.st = 1) (he : rdE n x.c D ≠ 0) : stepS n x D = ⟨rw0, rdE n x.c D, x, D⟩ := by unfold stepS; rw [if_pos h, if_neg he]
theorem step_read (h : x.st = 1) (he : rdE n x.c D = 0) : stepS n x D = ⟨⟨19, -1, zs 32, (lgS n x.c D).fin, (lgS n x.c D).txs.length⟩, 0, readR n x D, D⟩ := by unfold stepS; rw [if_pos h, if_pos he]
theorem step_carry {i : Im} {r : List Im} (h : x.st = 2) (hl : x.left = i :: r) : stepS n x D = ⟨⟨15, i.b, i.v, 0, 0⟩, 0, { x with st := aftS r, left := r }, D.wr (1 + i.b).toNat (homeS i.b i.v)⟩ := by unfold stepS; rw [if_neg (by omega), if_pos h, hl]
theorem step_flush (h : x.st = 3) : stepS n x D = ⟨⟨12, -1, zs 32, 0, D.ws.length⟩, 0, { x with st := 4 }, D.fls⟩ := by unfold stepS; rw [if_neg (by omega), if_neg (by omega), if_pos h]
theorem step_mark (h : x.st = 4) : stepS n x D = ⟨⟨16, -1, zs 32, x.en + x.c.lc, 0⟩, 0, { x with st := 5 }, D.wr 0 (encS (supN x))⟩ := by unfold stepS; rw [if_neg (by omega), if_neg (by omega), if_neg (by omega), if_pos h]
theorem step_end (h : x.st = 5) : stepS n x D = ⟨⟨20, -1, zs 32, x.en + x.c.lc, 0⟩, 0, { x with st := 6 }, D.fls⟩ := by unfold stepS; rw [if_neg (by omega), if_neg (by omega), if_neg (by omega), if_neg (by omega), if_pos h]
theorem step_over (h : x.st = 6) : stepS n x D = ⟨rw0, 190, x, D⟩ := by unfold stepS; rw [if_neg (by omega), if_neg (by omega), if_neg (by omega), if_neg (by omega), if_neg (by omega)]
end
structure Rc.Ok (n : Nat) (x : Rc) : Prop where
  mc : MayC x.c
  n : (n : Int) = 1 + x.c.bl + x.c.lc
  s0 : 1 ≤ x.st
  s1 : x.st ≤ 6
  wf : ImsWf x.left
  blk : ∀ i ∈ x.left, 0 ≤ i.b ∧ i.b < x.c.bl
  few : (x.left.length : Int) ≤ x.c.lc - 1
  car : x.st = 2 → x.left ≠ []
  non : x.st ≠ 2 → x.left = []
  e0 : 0 ≤ x.en
  l0 : 0 ≤ x.li
  e1 : x.en + x.c.lc ≤ 4611686018427387904
  l1 : x.li + 1 ≤ 4611686018427387904
  z : x.st = 1 → x.en = 0 ∧ x.li = 0
theorem aftS_ne {l : List Im} (h : l ≠ []) : aftS l = 2 := if_neg fun e => h (List.length_eq_zero_iff.1 e)
theorem aftS_or (l : List Im) : aftS l = 2 ∨ aftS l = 3 := by
  by_cases h : l = []
  · rw [h]; exact .inr rfl
  · exact .inl (aftS_ne h)
structure ScIn (bl : Int) (k : Nat) (s : Sc) : Prop where
  tx : ∀ t ∈ s.txs, ∀ i ∈ t.ims, 0 ≤ i.b ∧ i.b < bl
  cm : ∀ i ∈ s.come, 0 ≤ i.b ∧ i.b < bl
  len : (flat s.txs).length + s.txs.length + s.come.length ≤ k
theorem ScIn.more {bl : Int} {k m : Nat} {s : Sc} (h : ScIn bl k s) (hk : k ≤ m) : ScIn bl m s := ⟨h.tx, h.cm, Nat.le_trans h.len hk⟩
theorem may_block {r : R.Rec} (h : R.may r = true) (hk : r.kind = 1) : 0 ≤ r.block := by
  unfold R.may at h
  simp only [Bool.and_eq_true, Bool.or_eq_true, decide_eq_true_eq] at h
  rcases h.2 with e | e
  · unfold R.imageB at e; simp only [Bool.and_eq_true, decide_eq_true_eq] at e; exact e.2.1
  · unfold R.commitB at e; simp only [Bool.and_eq_true, beq_iff_eq] at e; have := e.1; omega
theorem ScIn.step {bl mr p : Int} {k : Nat} {s s' : Sc} {r : R.Rec} (h : ScIn bl k s) (hm : R.may r = true) (hb : r.block < bl) (e : scStep mr s p r = some s') : ScIn bl (k + 1) s' := by
  have hl := h.len
  by_cases c1 : r.kind = 1 ∧ Folls s.come r.block mr
  · rw [scStep_img c1] at e
    cases e
    refine ⟨h.tx, fun i hi => ?_, ?_⟩
    · rcases List.mem_append.1 hi with hi | hi
      · exact h.cm i hi
      · rw [List.mem_singleton.1 hi]; exact ⟨may_block hm c1.1, hb⟩
    · show (flat s.txs).length + s.txs.length + (s.come ++ [_]).length ≤ k + 1
      rw [List.length_append, List.length_singleton]; omega
  · by_cases c2 : r.kind = 2 ∧ r.images = s.come.length
    · rw [scStep_com c2] at e
      cases e
      refine ⟨fun t ht => ?_, fun i hi => (by cases hi), ?_⟩
      · rcases List.mem_append.1 ht with ht | ht
        · exact h.tx t ht
        · rw [List.mem_singleton.1 ht]; exact h.cm
      · show (flat (s.txs ++ [_])).length + (s.txs ++ [_]).length + 0 ≤ k + 1
        rw [flat_snoc, List.length_append, List.length_append, List.length_singleton]; show _ + s.come.length + _ + 0 ≤ _; omega
    · rw [scStep_no c1 c2] at e; cases e
theorem ScIn.run {bl mr : Int} {st : Int → R.Rec × Bool} (hst : ∀ p, (st p).2 = true → R.may (st p).1 = true ∧ (st p).1.block < bl) : ∀ (k j : Nat) (p : Int) (s : Sc), ScIn bl j s → ScIn bl (j + k) (scRun st mr k p s)
  | 0, j, p, s, h => h
  | k + 1, j, p, s, h => by
    by_cases c : (st p).2 = true
    · cases e : scStep mr s p (st p).1 with
      | none => rw [scRun_stop e]; exact h.more (by omega)
      | some s' =>
        rw [scRun_go c e, show j + (k + 1) = j + 1 + k by omega]
        exact ScIn.run hst k (j + 1) (p + 1) s' (h.step (hst p c).1 (hst p c).2 e)
    · rw [scRun_off (by simpa using c)]; exact h.more (by omega)
section
variable {n : Nat} {x : Rc} {D : Dd}
theorem lgS_wf (hD : D.Ok n) : (lgS n x.c D).Wf := rdL_wf hD.bytes
theorem rdL_two (h : (rdL x.c n D.rd).2 = 0) : (supOf x.c n D.rd).2 = 0 := by
  by_cases a : (supOf x.c n D.rd).2 = 0
  · exact a
  · rw [rdL_no a] at h; exact absurd h a
theorem lgS_in (h : (rdL x.c n D.rd).2 = 0) : ∃ s : Sc, (lgS n x.c D).txs = s.txs ∧ ScIn x.c.bl x.c.lc.toNat s := by
  have h1 := rdL_two h
  refine ⟨_, by unfold lgS; rw [rdL_ok h1]; rfl, ?_⟩
  have := ScIn.run (bl := x.c.bl) (mr := x.c.mr) (st := stS x.c D.rd) (fun p hp => ⟨(stS_good hp).1, (stS_good hp).2.2⟩) x.c.lc.toNat 0 (supOf x.c n D.rd).1.tail ⟨[], (supOf x.c n D.rd).1.tail, []⟩ ⟨fun t ht => (by cases ht), fun i hi => (by cases hi), Nat.le_refl _⟩
  rwa [Nat.zero_add] at this
theorem Rc.Ok.sup (h : x.Ok n) : May (supN x) := ⟨h.mc, h.e1, by have := h.l0; show 1 ≤ x.li + 1; omega, h.l1⟩
theorem Rc.Ok.supwf (h : x.Ok n) : (supN x).Wf := by
  have a := h.mc; have b := h.e0; have c := h.e1; have d := h.l0; have e := h.l1
  refine ⟨⟨?_, ?_⟩, ⟨?_, ?_⟩, ⟨?_, ?_⟩, ⟨?_, ?_⟩, ⟨?_, ?_⟩, ⟨?_, ?_⟩, ⟨?_, ?_⟩⟩ <;> (show _ ≤ _) <;> (simp only [supN]) <;> omega
theorem start_ok {c : Sup} (h : MayC c) (hn : (n : Int) = 1 + c.bl + c.lc) : (⟨c, 1, 0, 0, []⟩ : Rc).Ok n :=
  ⟨h, hn, by show (1 : Int) ≤ 1; omega, by show (1 : Int) ≤ 6; omega, ImsWf.nil, fun i hi => (by cases hi), by have := h.2.1; show ((0 : Nat) : Int) ≤ c.lc - 1; omega, fun e => (by have : (1 : Int) = 2 := e; omega), fun _ => rfl, Int.le_refl _, Int.le_refl _, by have := h.2.1; show 0 + c.lc ≤ _; omega, by show (0 : Int) + 1 ≤ _; omega, fun _ => ⟨rfl, rfl⟩⟩
theorem Rc.Ok.go (h : x.Ok n) {s : Int} (h3 : 3 ≤ x.st) (hs : 4 ≤ s) (hs6 : s ≤ 6) : ({ x with st := s } : Rc).Ok n :=
  ⟨h.mc, h.n, by show 1 ≤ s; omega, hs6, h.wf, h.blk, h.few, fun e => (by have : s = 2 := e; omega), fun _ => h.non (by omega), h.e0, h.l0, h.e1, h.l1, fun e => (by have : s = 1 := e; omega)⟩
end
end Go.Proofs.YtdadpepfpiimgaaDoor.Q
namespace Go.Proofs.YtdadpepfpiimgaaDoor.Q
open Go.RowKit
structure Th where
  at' : World → (Nat → Prop) → Prop
  foot : Nat → Prop
  lt' : ∀ w G b, at' w G → foot b → b < w.heap.size
  kept' : ∀ w w' G G' S, at' w G → Kept S w w' → (∀ b, foot b → ¬ S b) → (∀ g, G g → g < w.heap.size → ¬ S g) → (∀ g, G g → G' g) → at' w' G'
def Th.no : Th := ⟨fun _ _ => True, fun _ => False, fun _ _ _ _ h => h.elim, fun _ _ _ _ _ _ _ _ _ _ => trivial⟩
variable {w0 w w' we : World} {G G' : Nat → Prop} {T : List Th}
structure Fam (w0 w : World) (T : List Th) (G : Nat → Prop) : Prop where
  at' : ∀ (i : Nat) (t : Th), T[i]? = some t → t.at' w G
  lo : ∀ (i : Nat) (t : Th), T[i]? = some t → ∀ b, t.foot b → w0.heap.size ≤ b
  apart : ∀ (i j : Nat) (t u : Th), T[i]? = some t → T[j]? = some u → i ≠ j → ∀ b, t.foot b → ¬ u.foot b
  im : ∀ (i : Nat) (t : Th), T[i]? = some t → ∀ b, t.foot b → ¬ G b
  glt : ∀ g, G g → g < w.heap.size
theorem Fam.nil (w0 w : World) : Fam w0 w [] (fun _ => False) := ⟨fun i t h => (by simp at h), fun i t h => (by simp at h), fun i j t u h => (by simp at h), fun i t h => (by simp at h), fun _ h => h.elim⟩
theorem Fam.later (h : Fam w0 w T G) (hb : Below w.heap.size w w') : Fam w0 w' T G :=
  ⟨fun i t hi => t.kept' w w' G G (fun _ => False) (h.at' i t hi) (Kept.of_below hb) (fun _ _ e => e) (fun _ _ _ e => e) (fun _ a => a), h.lo, h.apart, h.im, fun g hg => Nat.lt_of_lt_of_le (h.glt g hg) hb.size⟩
theorem Fam.turn (h : Fam w0 w T G) {i : Nat} {t t' : Th} {S : Nat → Prop} (hi : T[i]? = some t) (ht : t'.at' w' G') (hk : Kept S w w') (hS : ∀ b, b < w.heap.size → S b → t.foot b) (hf : ∀ b, t'.foot b → t.foot b ∨ w.heap.size ≤ b) (hw : w0.heap.size ≤ w.heap.size) (hG : ∀ g, G g → G' g) (hG2 : ∀ g, G' g → G g ∨ (w.heap.size ≤ g ∧ g < w'.heap.size ∧ ¬ t'.foot g)) : Fam w0 w' (T.set i t') G' := by
  have hlt := (List.getElem?_eq_some_iff.1 hi).1
  have hget : ∀ (j : Nat) (u : Th), (T.set i t')[j]? = some u → (j = i ∧ u = t') ∨ (j ≠ i ∧ T[j]? = some u) := fun j u hj => by
    rw [List.getElem?_set] at hj
    by_cases e : i = j
    · rw [if_pos e, if_pos hlt] at hj; exact .inl ⟨e.symm, (Option.some.inj hj).symm⟩
    · rw [if_neg e] at hj; exact .inr ⟨fun k => e k.symm, hj⟩
  have hGS : ∀ g, G g → g < w.heap.size → ¬ S g := fun g hg hl hs => h.im i t hi g (hS g hl hs) hg
  have hnew : ∀ (j : Nat) (u : Th), T[j]? = some u → ∀ b, u.foot b → b < w.heap.size := fun j u hj b hb => u.lt' w G b (h.at' j u hj) hb
  have hap : ∀ (j : Nat) (u : Th), T[j]? = some u → j ≠ i → ∀ b, t'.foot b → ¬ u.foot b := fun j u hj hji b hb e => by
    rcases hf b hb with h1 | h1
    · exact h.apart j i u t hj hi hji b e h1
    · have := hnew j u hj b e; omega
  refine ⟨fun j u hj => ?_, fun j u hj b hb => ?_, fun x y u v hx hy hne b hb => ?_, fun j u hj b hb hg => ?_, fun g hg => ?_⟩
  · rcases hget j u hj with ⟨_, rfl⟩ | ⟨e, hj⟩
    · exact ht
    · exact u.kept' w w' G G' S (h.at' j u hj) hk (fun b hb hs => h.apart j i u t hj hi e b hb (hS b (hnew j u hj b hb) hs)) hGS hG
  · rcases hget j u hj with ⟨_, rfl⟩ | ⟨e, hj⟩
    · rcases hf b hb with h1 | h1
      · exact h.lo i t hi b h1
      · omega
    · exact h.lo j u hj b hb
  · rcases hget x u hx with ⟨e1, rfl⟩ | ⟨e1, hx2⟩
    · rcases hget y v hy with ⟨e2, rfl⟩ | ⟨e2, hy2⟩
      · exact absurd (e1.trans e2.symm) hne
      · exact hap y v hy2 e2 b hb
    · rcases hget y v hy with ⟨e2, rfl⟩ | ⟨e2, hy2⟩
      · exact fun k => hap x u hx2 e1 b k hb
      · exact h.apart x y u v hx2 hy2 hne b hb
  · rcases hget j u hj with ⟨_, rfl⟩ | ⟨e, hj⟩
    · rcases hG2 b hg with h1 | ⟨_, _, h1⟩
      · rcases hf b hb with h2 | h2
        · exact h.im i t hi b h2 h1
        · have := h.glt b h1; omega
      · exact h1 hb
    · rcases hG2 b hg with h1 | ⟨h1, _⟩
      · exact h.im j u hj b hb h1
      · have := hnew j u hj b hb; omega
  · rcases hG2 g hg with h1 | ⟨_, h1, _⟩
    · exact Nat.lt_of_lt_of_le (h.glt g h1) hk.size
    · exact h1
theorem Fam.push (h : Fam w0 we T G) (hw : w0.heap.size ≤ we.heap.size) (hb : Below we.heap.size we w) {u : Th} (hG : ∀ g, G g → G' g) (hu : u.at' w G') (hf : ∀ b, u.foot b → we.heap.size ≤ b) (hG2 : ∀ g, G' g → G g ∨ (we.heap.size ≤ g ∧ g < w.heap.size ∧ ¬ u.foot g)) : Fam w0 w (u :: T) G' := by
  have hnew : ∀ (j : Nat) (t : Th), T[j]? = some t → ∀ b, t.foot b → b < we.heap.size := fun j t hj b hb => t.lt' we G b (h.at' j t hj) hb
  refine ⟨fun j t hj => ?_, fun j t hj b hb2 => ?_, fun x y t v hx hy hne b hb2 => ?_, fun j t hj b hb2 hg => ?_, fun g hg => ?_⟩
  · cases j with
    | zero => obtain rfl : u = t := by simpa using hj
              exact hu
    | succ j => exact t.kept' we w G G' (fun _ => False) (h.at' j t (by simpa using hj)) (Kept.of_below hb) (fun _ _ e => e) (fun _ _ _ e => e) hG
  · cases j with
    | zero => obtain rfl : u = t := by simpa using hj
              exact Nat.le_trans hw (hf b hb2)
    | succ j => exact h.lo j t (by simpa using hj) b hb2
  · cases x with
    | zero =>
      obtain rfl : u = t := by simpa using hx
      cases y with
      | zero => exact absurd rfl hne
      | succ y => exact fun k => by have := hnew y v (by simpa using hy) b k; have := hf b hb2; omega
    | succ x =>
      cases y with
      | zero =>
        obtain rfl : u = v := by simpa using hy
        exact fun k => by have := hnew x t (by simpa using hx) b hb2; have := hf b k; omega
      | succ y => exact h.apart x y t v (by simpa using hx) (by simpa using hy) (by omega) b hb2
  · cases j with
    | zero =>
      obtain rfl : u = t := by simpa using hj
      rcases hG2 b hg with h1 | ⟨_, _, h1⟩
      · have := h.glt b h1; have := hf b hb2; omega
      · exact h1 hb2
    | succ j =>
      rcases hG2 b hg with h1 | ⟨h1, _⟩
      · exact h.im j t (by simpa using hj) b hb2 h1
      · have := hnew j t (by simpa using hj) b hb2; omega
  · rcases hG2 g hg with h1 | ⟨_, h1, _⟩
    · exact Nat.lt_of_lt_of_le (h.glt g h1) hb.size
    · exact h1
theorem Fam.pick (h : Fam w0 w T G) {T' : List Th} (f : Nat → Nat) (hf : ∀ (i : Nat) (t : Th), T'[i]? = some t → T[f i]? = some t) (hi : ∀ i j, i < T'.length → j < T'.length → f i = f j → i = j) : Fam w0 w T' G :=
  ⟨fun i t e => h.at' _ t (hf i t e), fun i t e => h.lo _ t (hf i t e), fun i j t u e e2 hne => h.apart _ _ t u (hf i t e) (hf j u e2) (fun k => hne (hi i j (List.getElem?_eq_some_iff.1 e).1 (List.getElem?_eq_some_iff.1 e2).1 k)), fun i t e => h.im _ t (hf i t e), h.glt⟩
abbrev Kd : Type := Th → Prop
def Fits : List Kd → List Th → Prop
  | [], [] => True
  | k :: ks, t :: ts => k t ∧ Fits ks ts
  | _, _ => False
theorem Fits.len : ∀ {X : List Kd} {T : List Th}, Fits X T → X.length = T.length
  | [], [], _ => rfl
  | [], _ :: _, h => h.elim
  | _ :: _, [], h => h.elim
  | _ :: _, _ :: _, h => by rw [List.length_cons, List.length_cons, h.2.len]
theorem Fits.get : ∀ {X : List Kd} {T : List Th}, Fits X T → ∀ {i : Nat} {k : Kd}, X[i]? = some k → ∃ t, T[i]? = some t ∧ k t
  | [], [], _, i, k, e => by simp at e
  | [], _ :: _, h, _, _, _ => h.elim
  | _ :: _, [], h, _, _, _ => h.elim
  | x :: _, t :: _, h, 0, k, e => by obtain rfl : x = k := by simpa using e
                                     exact ⟨t, rfl, h.1⟩
  | _ :: _, _ :: _, h, i + 1, k, e => h.2.get (i := i) (by simpa using e)
theorem Fits.set : ∀ {X : List Kd} {T : List Th}, Fits X T → ∀ (i : Nat) {k : Kd} {t : Th}, k t → Fits (X.set i k) (T.set i t)
  | [], [], _, _, _, _, _ => trivial
  | [], _ :: _, h, _, _, _, _ => h.elim
  | _ :: _, [], h, _, _, _, _ => h.elim
  | _ :: _, _ :: _, h, 0, _, _, e => ⟨e, h.2⟩
  | _ :: _, _ :: _, h, i + 1, _, _, e => ⟨h.1, h.2.set i e⟩
theorem Fits.of : ∀ {X : List Kd} {T : List Th}, X.length = T.length → (∀ (i : Nat) (k : Kd) (t : Th), X[i]? = some k → T[i]? = some t → k t) → Fits X T
  | [], [], _, _ => trivial
  | [], _ :: _, h, _ => by simp at h
  | _ :: _, [], h, _ => by simp at h
  | k :: X, t :: T, h, e => ⟨e 0 k t rfl rfl, Fits.of (by simpa using h) fun i k' t' a b => e (i + 1) k' t' (by simpa using a) (by simpa using b)⟩
def Fz (w0 w : World) (X : List Kd) : Prop := ∃ T G, Fam w0 w T G ∧ Below w0.heap.size w0 w ∧ Fits X T
variable {X : List Kd} {i j : Nat} {k k' : Kd}
theorem Fz.start (w : World) : Fz w w [] := ⟨[], _, Fam.nil w w, Below.refl _ _, trivial⟩
theorem Fz.below (h : Fz w0 w X) : Below w0.heap.size w0 w := by
  obtain ⟨T, G, _, hb, _⟩ := h
  exact hb
theorem Fz.later (h : Fz w0 w X) (hb : Below w.heap.size w w') : Fz w0 w' X := by
  obtain ⟨T, G, hf, hb0, hX⟩ := h
  exact ⟨T, G, hf.later hb, below_then hb0 hb, hX⟩
theorem Fz.tab (h : Fz w0 w X) (ht : Tab w0) : Tab w := ht.later h.below
theorem Fz.at (h : Fz w0 w X) (hi : X[i]? = some k) : ∃ t G, k t ∧ t.at' w G ∧ (∀ b, t.foot b → w0.heap.size ≤ b ∧ b < w.heap.size ∧ ¬ G b) ∧ ∀ (w' : World) (t' : Th) (G' S : Nat → Prop) (k' : Kd), t'.at' w' G' → Kept S w w' → (∀ b, b < w.heap.size → S b → t.foot b) → (∀ b, t'.foot b → t.foot b ∨ w.heap.size ≤ b) → (∀ g, G g → G' g) → (∀ g, G' g → G g ∨ (w.heap.size ≤ g ∧ g < w'.heap.size ∧ ¬ t'.foot g)) → k' t' → Fz w0 w' (X.set i k') := by
  obtain ⟨T, G, hf, hb, hX⟩ := h
  obtain ⟨t, ht, hk⟩ := hX.get hi
  refine ⟨t, G, hk, hf.at' i t ht, fun b hb => ⟨hf.lo i t ht b hb, t.lt' w G b (hf.at' i t ht) hb, hf.im i t ht b hb⟩, fun w' t' G' S k' h1 h2 h3 h4 h5 h6 h7 => ⟨_, G', hf.turn ht h1 h2 h3 h4 hb.size h5 h6, ?_, hX.set i h7⟩⟩
  have lo := hf.lo i t ht
  exact ⟨h2.os.trans hb.os, h2.tape.trans hb.tape, h2.output.trans hb.output, Nat.le_trans hb.size h2.size, fun b hb2 => (h2.block b (Nat.lt_of_lt_of_le hb2 hb.size) fun hs => by have := lo b (h3 b (Nat.lt_of_lt_of_le hb2 hb.size) hs); omega).trans (hb.block b hb2)⟩
theorem Fz.push (h : Fz w0 we X) (hb : Below we.heap.size we w) {u : Th} (hu : ∀ G, u.at' w G) (hf : ∀ b, u.foot b → we.heap.size ≤ b) (hk : k u) : Fz w0 w (k :: X) := by
  obtain ⟨T, G, hF, hb0, hX⟩ := h
  exact ⟨u :: T, G, hF.push hb0.size hb (fun _ a => a) (hu G) hf (fun _ a => .inl a), below_then hb0 hb, hk, hX⟩
theorem Fz.pop (h : Fz w0 w (k :: X)) : Fz w0 w X := by
  obtain ⟨T, G, hF, hb0, hX⟩ := h
  cases T with
  | nil => exact hX.elim
  | cons t T => exact ⟨T, G, hF.pick (· + 1) (fun i t' e => by simpa using e) (fun _ _ _ _ e => by omega), hb0, hX.2⟩
theorem Fz.pick (h : Fz w0 w X) {X' : List Kd} (f : Nat → Nat) (hf : ∀ i, i < X'.length → f i < X.length ∧ X'[i]? = X[f i]?) (hi : ∀ i j, i < X'.length → j < X'.length → f i = f j → i = j) : Fz w0 w X' := by
  obtain ⟨T, G, hF, hb0, hX⟩ := h
  have hlen := hX.len
  have hex : ∀ n, (∀ i, i < n → f i < T.length) → ∃ T' : List Th, T'.length = n ∧ ∀ i, i < n → T'[i]? = T[f i]? := fun n hn => by
    refine ⟨(List.range n).map fun i => T.getD (f i) .no, by simp, fun i hi => ?_⟩
    have := hn i hi
    simp [hi, List.getD_eq_getElem?_getD, List.getElem?_eq_getElem this]
  obtain ⟨T', e1, e2⟩ := hex X'.length (fun i hi => by rw [← hlen]; exact (hf i hi).1)
  refine ⟨T', G, hF.pick f (fun i t e => by rw [← e2 i (by rw [← e1]; exact (List.getElem?_eq_some_iff.1 e).1)]; exact e) (fun a b ha hb => hi a b (by omega) (by omega)), hb0, Fits.of e1.symm fun i k t a b => ?_⟩
  have hl := (List.getElem?_eq_some_iff.1 a).1
  obtain ⟨u, c1, c2⟩ := hX.get (i := f i) (k := k) (by rw [← (hf i hl).2]; exact a)
  rw [e2 i hl, c1] at b
  cases b
  exact c2
theorem Fz.set_same (hi : X[i]? = some k) : X.set i k = X := by
  obtain ⟨hl, e⟩ := List.getElem?_eq_some_iff.1 hi
  rw [← e]; exact List.set_getElem_self hl
end Go.Proofs.YtdadpepfpiimgaaDoor.Q
namespace Go.Proofs.YtdadpepfpiimgaaDoor.Q
open Go.RowKit
def Th.dsk (S : Nat → Prop) (p n : Nat) (D : Dd) : Th := ⟨fun w _ => Dsk w S p n D.d D.ws ∧ ∀ k, S k → k < w.heap.size, S, fun _ _ _ h hb => h.2 _ hb, fun _ _ _ _ _ h hk hf _ _ => ⟨h.1.kept hk (fun k a b => hf k a b), fun k a => Nat.lt_of_lt_of_le (h.2 k a) hk.size⟩⟩
def Th.blk (B : Nat) (t : TypeId) (cs : Array Value) : Th := ⟨fun w _ => w.heap[B]? = some (.cells cs t (0, 0)), fun b => b = B, fun _ _ b h hb => by rw [hb]; exact (Array.getElem?_eq_some_iff.1 h).1, fun _ _ _ _ _ h hk hf _ _ => (hk.block B (Array.getElem?_eq_some_iff.1 h).1 (hf B rfl)).trans h⟩
structure Lf (w : World) (G : Nat → Prop) (v : Value) (l : List Im) : Prop where
  ex : ∃ q c, v = .slice q l.length c ∧ MIn w q l.length l ∧ l.length ≤ c ∧ c ≤ maxLen ∧ (0 < l.length → ∀ a, q = some a → G a.block)
theorem Lf.nil (w : World) (G : Nat → Prop) : Lf w G (.slice none 0 0) [] := ⟨⟨none, 0, rfl, MIn.nil w none, Nat.le_refl _, Nat.zero_le _, fun h => absurd h (Nat.lt_irrefl 0)⟩⟩
theorem mIn_keep {w w' : World} {p : Option Addr} {n : Nat} {l : List Im} (h : MIn w p n l) (hb : ∀ a, p = some a → 0 < n → a.block < w.heap.size → w'.heap[a.block]? = w.heap[a.block]?) : MIn w' p n l := by
  refine ⟨h.len, h.wf, fun h0 => ?_⟩
  obtain ⟨b, o, e, hr⟩ := h.cells h0
  exact ⟨b, o, e, range_block hr (hb _ e h0 (range_lt hr (by rw [IC_len h.wf, h.len]; omega)))⟩
theorem mIn_blt {w : World} {p : Option Addr} {n : Nat} {l : List Im} (h : MIn w p n l) (h0 : 0 < n) {a : Addr} (ha : p = some a) : a.block < w.heap.size := by
  obtain ⟨b, o, e, hr⟩ := h.cells h0
  rw [ha] at e; cases e
  exact range_lt hr (by rw [IC_len h.wf, h.len]; omega)
theorem Lf.keep {w w' : World} {G G' S : Nat → Prop} {v : Value} {l : List Im} (h : Lf w G v l) (hk : Kept S w w') (hS : ∀ g, G g → g < w.heap.size → ¬ S g) (hG : ∀ g, G g → G' g) : Lf w' G' v l := by
  obtain ⟨q, c, e, hm, h1, h2, h3⟩ := h.ex
  exact ⟨q, c, e, mIn_keep hm (fun a ha h0 hl => hk.block _ hl (hS _ (h3 h0 a ha) hl)), h1, h2, fun h0 a ha => hG _ (h3 h0 a ha)⟩
theorem Lf.tl {w : World} {G : Nat → Prop} {v : Value} {i : Im} {r : List Im} (h : Lf w G v (i :: r)) : ∃ b o c, v = .slice (some ⟨b, o, none⟩) (r.length + 1) c ∧ MIn w (some ⟨b, o, none⟩) (r.length + 1) (i :: r) ∧ r.length + 1 ≤ c ∧ c ≤ maxLen ∧ G b ∧ Lf w G (.slice (some ⟨b, o + 33, none⟩) r.length (c - 1)) r := by
  obtain ⟨q, c, e, hm, h1, h2, h3⟩ := h.ex
  obtain ⟨b, o, eq, hr⟩ := hm.cells (by simp)
  subst eq
  refine ⟨b, o, c, e, hm, h1, h2, h3 (by simp) _ rfl, ⟨some ⟨b, o + 33, none⟩, c - 1, rfl, ⟨rfl, fun x hx => hm.wf x (List.mem_cons.2 (.inr hx)), fun _ => ⟨b, o + 33, rfl, fun j v hv => ?_⟩⟩, by simp only [List.length_cons] at h1; omega, by omega, fun _ a ha => by cases ha; exact (h3 (by simp) ⟨b, o, none⟩ rfl : G b)⟩⟩
  have hl := icells_len (hm.wf i (List.mem_cons.2 (.inl rfl))).len
  have := hr (33 + j) v (by show (icells i ++ IC r)[33 + j]? = some v; rw [List.getElem?_append_right (by omega), hl, Nat.add_sub_cancel_left]; exact hv)
  rw [show o + 33 + j = o + (33 + j) by omega]; exact this
theorem Lf.of_own {w : World} {G : Nat → Prop} {B : Nat} {v : Value} {l : List Im} (h : IOwn w B v l) (hw : ImsWf l) : Lf w (fun g => G g ∨ v.ownBlock = some g) v l := by
  obtain ⟨q, c, e, hm, h1, h2⟩ := h.in hw
  refine ⟨q, c, e, hm, h1, h2, fun h0 a ha => .inr ?_⟩
  rw [e, ha]; rfl
theorem keptRow (w : World) (B : Nat) (cs : Array Value) : Kept (· = B) w (w.setRow B cs) := ⟨rfl, rfl, rfl, by rw [size_setRow]; exact Nat.le_refl _, fun k _ hk => setRow_other w B k cs hk⟩
abbrev qp (Q : Nat) : Value := .pointer (some ⟨Q, 0, none⟩)
def qo : Option Nat → Value
  | none => .pointer none
  | some p => qp p
def tlS (x : Rc) : Int := if x.st = 1 then 0 else x.en + x.c.lc
def lfS (x : Rc) : Int := if x.st = 1 then 0 else x.li + 1
def pcl (q : Option Nat) (x : Rc) (v : Value) : List Value := [qo q, .int .i64 x.c.bl, .int .i64 x.c.lc, .int .i64 x.c.mr, .int .i64 x.c.hi, .int .i64 x.c.cl, .int .i64 x.st, .int .u64 (tlS x), .int .u64 (lfS x), v]
structure PAt (w : World) (G : Nat → Prop) (P : Nat) (q : Option Nat) (x : Rc) (v : Value) : Prop where
  str : w.heap[P]? = some (.cells (pcl q x v).toArray 58 (0, 0))
  lf : Lf w G v x.left
def Th.prc (P : Nat) (q : Option Nat) (x : Rc) (v : Value) : Th := ⟨fun w G => PAt w G P q x v, fun b => b = P, fun _ _ b h hb => by rw [hb]; exact (Array.getElem?_eq_some_iff.1 h.str).1, fun _ _ _ _ _ h hk hf hS hG => ⟨(hk.block P (Array.getElem?_eq_some_iff.1 h.str).1 (hf P rfl)).trans h.str, h.lf.keep hk hS hG⟩⟩
def kd (p n : Nat) (D : Dd) : Kd := fun t => ∃ S, t = Th.dsk S p n D
def kr (P : Nat) (q : Option Nat) (x : Rc) : Kd := fun t => ∃ v, t = Th.prc P q x v
def kb (B : Nat) (ty : TypeId) (cs : List Value) : Kd := fun t => t = Th.blk B ty cs.toArray
section
variable {w0 w w' : World} {X : List Kd} {i j P p n B : Nat} {q : Option Nat} {D : Dd} {x : Rc} {ty : TypeId} {cs : List Value}
theorem Fz.atd (h : Fz w0 w X) (hi : X[i]? = some (kd p n D)) : ∃ S, Dsk w S p n D.d D.ws ∧ (∀ k, S k → k < w.heap.size) ∧ ∀ (w' : World) (S' : Nat → Prop) (D' : Dd), Dsk w' S' p n D'.d D'.ws → Kept S w w' → (∀ k, S' k → S k ∨ w.heap.size ≤ k) → Fz w0 w' (X.set i (kd p n D')) := by
  obtain ⟨t, G, ⟨S, rfl⟩, ha, hf, hl⟩ := h.at hi
  exact ⟨S, ha.1, ha.2, fun w' S' D' hd hk hs => hl w' (.dsk (fun k => S' k ∧ k < w'.heap.size) p n D') G S _ ⟨hd.mono fun _ h1 h2 => ⟨h2, h1⟩, fun _ h1 => h1.2⟩ hk (fun _ _ e => e) (fun b hb => hs b hb.1) (fun _ e => e) (fun _ e => .inl e) ⟨_, rfl⟩⟩
theorem Fz.newd (h : Fz w0 w X) (hb : Below w.heap.size w w') (hd : Dsk w' (fun k => w.heap.size ≤ k) p n D.d D.ws) : Fz w0 w' (kd p n D :: X) :=
  h.push hb (u := .dsk (fun k => w.heap.size ≤ k ∧ k < w'.heap.size) p n D) (fun _ => ⟨hd.mono fun _ h1 h2 => ⟨h2, h1⟩, fun _ h1 => h1.2⟩) (fun _ hb => hb.1) ⟨_, rfl⟩
theorem Fz.newb (h : Fz w0 w X) (hb : Below w.heap.size w w') (hd : LAt ty w' B cs) (hB : w.heap.size ≤ B) : Fz w0 w' (kb B ty cs :: X) :=
  h.push hb (u := .blk B ty cs.toArray) (fun _ => hd) (fun b hb => by have : b = B := hb; omega) rfl
theorem Fz.newa (h : Fz w0 w X) (cs : List Value) (ty : TypeId) : Fz w0 (w.alloc (.cells cs.toArray ty)) (kb w.heap.size ty cs :: X) := h.newb (below_alloc w _) (heap_alloc_new w _) (Nat.le_refl _)
theorem Fz.atb (h : Fz w0 w X) (hi : X[i]? = some (kb B ty cs)) : LAt ty w B cs ∧ B < w.heap.size ∧ w0.heap.size ≤ B ∧ ∀ ds : List Value, Fz w0 (w.setRow B ds.toArray) (X.set i (kb B ty ds)) := by
  obtain ⟨t, G, rfl, ha, hf, hl⟩ := h.at hi
  have hlt := (Array.getElem?_eq_some_iff.1 (show w.heap[B]? = _ from ha)).1
  exact ⟨ha, hlt, (hf B rfl).1, fun ds => hl _ (.blk B ty ds.toArray) G (· = B) _ (setRow_heap w B _ _ ty (0, 0) ha) (keptRow w B ds.toArray) (fun _ _ e => e) (fun b hb => .inl hb) (fun _ e => e) (fun _ e => .inl e) rfl⟩
theorem Fz.atr (h : Fz w0 w X) (hi : X[i]? = some (kr P q x)) : ∃ G v, PAt w G P q x v ∧ ¬ G P ∧ ∀ (w' : World) (G' : Nat → Prop) (q' : Option Nat) (x' : Rc) (v' : Value), PAt w' G' P q' x' v' → Kept (· = P) w w' → (∀ g, G g → G' g) → (∀ g, G' g → G g ∨ (w.heap.size ≤ g ∧ g < w'.heap.size)) → Fz w0 w' (X.set i (kr P q' x')) := by
  obtain ⟨t, G, ⟨v, rfl⟩, ha, hf, hl⟩ := h.at hi
  have hlt := (Array.getElem?_eq_some_iff.1 ha.str).1
  exact ⟨G, v, ha, (hf P rfl).2.2, fun w' G' q' x' v' hp hk h1 h2 => hl w' (.prc P q' x' v') G' (· = P) _ hp hk (fun _ _ e => e) (fun b hb => .inl hb) h1 (fun g hg => (h2 g hg).elim .inl fun a => .inr ⟨a.1, a.2, fun e => by have : g = P := e; omega⟩) ⟨_, rfl⟩⟩
theorem Fz.twin (h : Fz w0 w X) {x' : Rc} {q' : Option Nat} (hi : X[i]? = some (kr P q x)) (hb : Below w.heap.size w w') {R : Nat} (hR : w.heap.size ≤ R) (hp : ∀ (G : Nat → Prop) (v : Value), PAt w G P q x v → ∃ v', PAt w' G R q' x' v') : Fz w0 w' (kr R q' x' :: X) := by
  obtain ⟨T, G, hF, hb0, hX⟩ := h
  obtain ⟨t, ht, v, rfl⟩ := hX.get hi
  obtain ⟨v', hp⟩ := hp G v (hF.at' i _ ht)
  exact ⟨.prc R q' x' v' :: T, G, hF.push hb0.size hb (fun _ a => a) hp (fun b hb => by have : b = R := hb; omega) (fun _ a => .inl a), below_then hb0 hb, ⟨_, rfl⟩, hX⟩
theorem Fz.newr (h : Fz w0 w X) (hb : Below w.heap.size w w') (hR : w.heap.size ≤ P) (hx : x.left = []) (hs : w'.heap[P]? = some (.cells (pcl q x (.slice none 0 0)).toArray 58 (0, 0))) : Fz w0 w' (kr P q x :: X) :=
  h.push hb (u := .prc P q x (.slice none 0 0)) (fun G => ⟨hs, by rw [hx]; exact Lf.nil _ _⟩) (fun b hb => by have : b = P := hb; omega) ⟨_, rfl⟩
end
section
variable {w0 w : World} {X : List Kd} {j p n : Nat} {D : Dd}
theorem p_flush (h : Fz w0 w X) (hj : X[j]? = some (kd p n D)) (hk : D.ws.length ≤ 100000) : Calls Tryd.prog 37 #[qp p] w fun e w' => e = .returned (.tuple #[.int .i64 D.ws.length, .int .i64 0]) ∧ Fz w0 w' (X.set j (kd p n D.fls)) := by
  obtain ⟨S, hd, _, hl⟩ := h.atd hj
  refine (flush_any hd hk).mono ?_
  rintro e w' ⟨rfl, h1, h2⟩
  exact ⟨rfl, hl w' S D.fls h1 h2 fun _ a => .inl a⟩
theorem p_write (h : Fz w0 w X) (hj : X[j]? = some (kd p n D)) (hk : D.ws.length ≤ 100000) {i : Int} (h0 : 0 ≤ i) (h1 : i < n) {a : Option Addr} {c : Nat} {b : List Int} (hb : BIn w a 64 b) : Calls Tryd.prog 38 #[qp p, .int .i64 i, .slice a 64 c] w fun e w' => e = .returned (.int .i64 0) ∧ Fz w0 w' (X.set j (kd p n (D.wr i.toNat b))) := by
  obtain ⟨S, hd, _, hl⟩ := h.atd hj
  refine (write_at hd i h0 h1 a c b hb hk).mono ?_
  rintro e w' ⟨rfl, h1, h2⟩
  exact ⟨rfl, hl w' _ (D.wr i.toNat b) h1 h2 fun _ a => a⟩
theorem p_save (ht : Tab w0) (h : Fz w0 w X) (hj : X[j]? = some (kd p n D)) (hk : D.ws.length ≤ 100000) {c : Sup} {i : Im} (hi : i.Wf) (hr : rbS c n i.b = 0) : Calls Tryd.prog 35 #[qp p, .agg (ccells c).toArray, .int .i64 i.b, .agg (U8 i.v).toArray] w fun e w' => e = .returned (.int .i64 0) ∧ Fz w0 w' (X.set j (kd p n (D.wr (1 + i.b).toNat (homeS i.b i.v)))) := by
  obtain ⟨S, hd, _, hl⟩ := h.atd hj
  refine (hsave_any c i.b i.v hi.len hi.byte hd hk (h.tab ht)).mono ?_
  rintro e w' ⟨rfl, h1, h2⟩
  rw [svW_yes _ _ hr] at h1
  exact ⟨by rw [hr], hl w' _ (D.wr _ _) h1 h2 fun _ a => a⟩
theorem Fz.dok (h : Fz w0 w X) (hj : X[j]? = some (kd p n D)) : D.Ok n := by
  obtain ⟨S, hd, _, hl⟩ := h.atd hj
  obtain ⟨q, cap, v, hp⟩ := hd
  exact ⟨hp.n1, hp.n2, hp.dl, hp.db, hp.fit⟩
end
end Go.Proofs.YtdadpepfpiimgaaDoor.Q
namespace Go.Proofs.YtdadpepfpiimgaaDoor.Q
open Go.RowKit
section
variable {P : Program} {ops : Array Oper} {Q : Exit → Act → World → Prop} {md : Region.Mode} {S : World → Prop} {fuel : Nat} {listed : Array Bool} {a : Act} {w : World}
theorem tk (i : Nat) {oi : Oper} {v : Value} {a' : Act} (hS : S w) (h : wpAnyH P md ops Q S fuel (listed.setIfInBounds i true) a' w) (hi : ops[i]? = some oi := by simp; rfl) (hs : Region.noSelect ops = true := by kernel_rfl) (hf : Region.free md ops listed i = true := by kernel_rfl) (hr : (Region.ready md ops listed).contains i = true := by kernel_rfl) (hg : Region.wanted oi (yielded ops a.tmps) = true := by rfl) (hy : ∀ w, (execOp a.eval oi).run P w = .ok (.value v) w := by intro w; go_simp; with_reducible rfl) (ha : a.put oi.dst v = a' := by simp only [Act.put, List.setIfInBounds_toArray, List.set_cons_zero, List.set_cons_succ]; with_reducible rfl) (hQ : ∀ c a w, Q (.panic c) (a.put oi.dst v) w → Q (.panic c) a w := by exact fun _ _ _ h => h) : wpAnyH P md ops Q S (fuel + 1) listed a w :=
  wpAnyH_take hi hs hf hr hQ (.inl ⟨hg, fun w _ => hy w⟩) hS (ha ▸ h)
theorem tkl (i : Nat) {oi : Oper} {v : Value} {a' : Act} {Z : World → Prop} (hS : S w) (z : ∀ w, S w → Z w) (h : wpAnyH P md ops Q S fuel (listed.setIfInBounds i true) a' w) (hi : ops[i]? = some oi := by simp; rfl) (hs : Region.noSelect ops = true := by kernel_rfl) (hf : Region.free md ops listed i = true := by kernel_rfl) (hr : (Region.ready md ops listed).contains i = true := by kernel_rfl) (hg : Region.wanted oi (yielded ops a.tmps) = true := by rfl) (hy : ∀ w, Z w → (execOp a.eval oi).run P w = .ok (.value v) w := by intro w z; go_simp; with_reducible rfl) (ha : a.put oi.dst v = a' := by simp only [Act.put, List.setIfInBounds_toArray, List.set_cons_zero, List.set_cons_succ]; with_reducible rfl) (hQ : ∀ c a w, Q (.panic c) (a.put oi.dst v) w → Q (.panic c) a w := by exact fun _ _ _ h => h) : wpAnyH P md ops Q S (fuel + 1) listed a w :=
  wpAnyH_take hi hs hf hr hQ (.inl ⟨hg, fun w s => hy w (z w s)⟩) hS (ha ▸ h)
theorem tkr (i : Nat) {oi : Oper} (h : ∀ K' : Act → World → Prop, Shut (∀ a w, S w → (S w → wpAnyH P md ops Q S fuel (listed.setIfInBounds i true) a w) → K' a w) → if Region.wanted oi (yielded ops a.tmps) = true then Oper.wp P oi a w K' Q else K' (a.put oi.dst undef) w) (hi : ops[i]? = some oi := by simp; rfl) (hr : Region.ready md ops listed = [i] := by kernel_rfl) : wpAnyH P md ops Q S (fuel + 1) listed a w :=
  wpAnyH_ready hr (by simp) (AllReadyH.cons hi h AllReadyH.nil)
theorem tkm (i : Nat) {oi : Oper} {ty : TypeId} {x : Operand} {p v : Value} {a' : Act} (hS : S w) (hrun : ∀ w, S w → (Instr.loadAt ty p).run P w = .ok v w) (h : wpAnyH P md ops Q S fuel (listed.setIfInBounds i true) a' w) (hi : ops[i]? = some oi := by simp; rfl) (ho : oi.op = .load ty x := by rfl) (hx : a.eval x = p := by rfl) (hs : Region.noSelect ops = true := by kernel_rfl) (hf : Region.free md ops listed i = true := by kernel_rfl) (hr : (Region.ready md ops listed).contains i = true := by kernel_rfl) (hg : Region.wanted oi (yielded ops a.tmps) = true := by rfl) (ha : a.put oi.dst v = a' := by simp only [Act.put, List.setIfInBounds_toArray, List.set_cons_zero, List.set_cons_succ]; with_reducible rfl) (hQ : ∀ c a w, Q (.panic c) (a.put oi.dst v) w → Q (.panic c) a w := by exact fun _ _ _ h => h) : wpAnyH P md ops Q S (fuel + 1) listed a w :=
  wpAnyH_take hi hs hf hr hQ (.inl ⟨hg, fun w s => by unfold execOp; simp only [ho, hx, Sem.run_bind, hrun w s, Result.andThen_ok, Sem.run_pure]⟩) hS (ha ▸ h)
theorem tkb (i : Nat) {oi : Oper} {ty : TypeId} {ps : Array (Nat × Operand)} (vs : List (Nat × Value)) {v : Value} {a' : Act} (hS : S w) (hrun : ∀ w, (Instr.build ty vs.toArray).run P w = .ok v w) (h : wpAnyH P md ops Q S fuel (listed.setIfInBounds i true) a' w) (hi : ops[i]? = some oi := by simp; rfl) (ho : oi.op = .build ty ps := by rfl) (hx : ps.toList.map (fun (i, x) => (i, a.eval x)) = vs := by rfl) (hs : Region.noSelect ops = true := by kernel_rfl) (hf : Region.free md ops listed i = true := by kernel_rfl) (hr : (Region.ready md ops listed).contains i = true := by kernel_rfl) (hg : Region.wanted oi (yielded ops a.tmps) = true := by rfl) (ha : a.put oi.dst v = a' := by simp only [Act.put, List.setIfInBounds_toArray, List.set_cons_zero, List.set_cons_succ]; with_reducible rfl) (hQ : ∀ c a w, Q (.panic c) (a.put oi.dst v) w → Q (.panic c) a w := by exact fun _ _ _ h => h) : wpAnyH P md ops Q S (fuel + 1) listed a w :=
  wpAnyH_take hi hs hf hr hQ (yields_build_is hg ty ho hx hrun) hS (ha ▸ h)
end
end Go.Proofs.YtdadpepfpiimgaaDoor.Q
namespace Go.Proofs.YtdadpepfpiimgaaDoor.Q
open Go.RowKit
def rowc (r : Rw) : List Value := [.int .i64 r.kind, .int .u64 0, .int .i64 0, .int .u64 0, .int .i64 r.block] ++ (U8 r.val ++ [.int .u64 r.pos, .int .i64 r.count, .int .i64 0, .slice none 0 0])
abbrev zv : List Int := zs 32
abbrev row0 : List Value := rowc ⟨0, 0, zv, 0, 0⟩
theorem size_row : (Tryd.prog.info? 38).map (·.size) = some 41 := by kernel_rfl
theorem rowc_len {r : Rw} (h : r.val.length = 32) : (rowc r).length = 41 := by simp [rowc, h]
theorem rowc_one (r : Rw) : (rowc r).toArray.all (·.oneCell') = true := by
  simp [rowc, Value.oneCell']
theorem alloc_row (w : World) : (Instr.alloc 38 true (.tuple #[])).run Tryd.prog w = .ok (.pointer (some ⟨w.heap.size, 0, none⟩)) (w.alloc (.cells row0.toArray 38)) := by
  have hz : (Tryd.prog.info? 38).bind (·.zero) = some (.agg row0.toArray) := by kernel_rfl
  simp only [Instr.alloc, Sem.run_bind, Go.Proofs.YtdadpepfpiimgaaDoor.zv 38 _ hz, Result.andThen_ok]
  simp [newVar, newRow, Value.cells]
theorem build_row0 (w : World) : (Instr.build 38 #[]).run Tryd.prog w = .ok (.agg row0.toArray) w := run_build w 38 _ _ (by kernel_rfl)
theorem build_row7 (w : World) (k c : Int) : (Instr.build 38 #[(0, .int .i64 k), (4, .int .i64 (-1)), (7, .int .i64 c)]).run Tryd.prog w = .ok (.agg (rowc ⟨k, -1, zv, 0, c⟩).toArray) w := run_build w 38 _ _ (by kernel_rfl)
theorem build_row6 (w : World) (k q : Int) : (Instr.build 38 #[(0, .int .i64 k), (4, .int .i64 (-1)), (6, .int .u64 q)]).run Tryd.prog w = .ok (.agg (rowc ⟨k, -1, zv, q, 0⟩).toArray) w := run_build w 38 _ _ (by kernel_rfl)
theorem build_row67 (w : World) (k q c : Int) : (Instr.build 38 #[(0, .int .i64 k), (4, .int .i64 (-1)), (6, .int .u64 q), (7, .int .i64 c)]).run Tryd.prog w = .ok (.agg (rowc ⟨k, -1, zv, q, c⟩).toArray) w := run_build w 38 _ _ (by kernel_rfl)
def plR : List (Nat × Nat) := [(0, 1), (1, 1), (2, 1), (3, 1), (4, 1), (5, 32), (37, 1), (38, 1), (39, 1), (40, 1)]
theorem places_row : placesOf Tryd.prog 38 = some plR := by kernel_rfl
theorem zero_row : (Tryd.prog.info? 38).bind (·.zero) = some (.agg row0.toArray) := by kernel_rfl
theorem build_row45 (w : World) (k b : Int) (u : List Int) (hu : u.length = 32) : (Instr.build 38 #[(0, .int .i64 k), (4, .int .i64 b), (5, .agg (U8 u).toArray)]).run Tryd.prog w = .ok (.agg (rowc ⟨k, b, u, 0, 0⟩).toArray) w := by
  refine run_build w 38 _ _ ((built_of 38 _ _ _ places_row zero_row).trans ?_)
  show Instr.fill (plR.toArray[·]?) row0.toArray [(0, .int .i64 k), (4, .int .i64 b), (5, .agg (U8 u).toArray)] = _
  have e1 : ∀ rest, Instr.fill (plR.toArray[·]?) row0.toArray ((0, .int .i64 k) :: rest) = Instr.fill (plR.toArray[·]?) (rowc ⟨k, 0, zv, 0, 0⟩).toArray rest := fun rest => fill_step 0 1 0 rfl _ [.int .i64 k] _ rfl rfl (by rw [rowc_len (zs_len 32)]; omega) rest
  have e2 : ∀ rest, Instr.fill (plR.toArray[·]?) (rowc ⟨k, 0, zv, 0, 0⟩).toArray ((4, .int .i64 b) :: rest) = Instr.fill (plR.toArray[·]?) (rowc ⟨k, b, zv, 0, 0⟩).toArray rest := fun rest => fill_step 4 1 4 rfl _ [.int .i64 b] _ rfl rfl (by rw [rowc_len (zs_len 32)]; omega) rest
  have e3 : ∀ rest, Instr.fill (plR.toArray[·]?) (rowc ⟨k, b, zv, 0, 0⟩).toArray ((5, .agg (U8 u).toArray) :: rest) = Instr.fill (plR.toArray[·]?) (rowc ⟨k, b, u, 0, 0⟩).toArray rest := fun rest => by
    rw [fill_step 5 32 5 rfl _ (U8 u) _ rfl (by rw [U8_length, hu]) (by rw [rowc_len (zs_len 32)]; omega) rest]
    congr 2
    rw [U8_length, hu]
    rfl
  rw [e1, e2, e3]
  rfl
theorem store_row {w : World} {g : Nat} {cs ds : List Value} (h : LAt 38 w g cs) (hc : cs.length = 41) (hl : ds.length = 41) (ho : ds.toArray.all (·.oneCell') = true) : (Instr.storeAt 38 (.pointer (some ⟨g, 0, none⟩)) (.agg ds.toArray)).run Tryd.prog w = .ok () (w.setRow g ds.toArray) :=
  LAt.store h (by rw [size_row, hl]) (by rw [hl, hc]) ho
theorem frozen_row {w : World} {B j : Nat} {cs : Array Value} {ty : TypeId} (h : w.heap[B]? = some (.cells cs ty (0, 0))) : w.frozen? ⟨B, j, none⟩ = false := by simp [World.frozen?, h]
section
variable {w0 w : World} {G : Nat → Prop} {P p : Nat} {q : Option Nat} {x : Rc} {v : Value}
theorem PAt.c0 (h : PAt w G P (some p) x v) : w.cell? ⟨P, 0, none⟩ = some (qp p) := by rw [cell_of_row _ _ _ _ _ _ h.str]; rfl
theorem PAt.n0 (h : PAt w G P none x v) : w.cell? ⟨P, 0, none⟩ = some (.pointer none) := by rw [cell_of_row _ _ _ _ _ _ h.str]; rfl
theorem PAt.c2 (h : PAt w G P q x v) : w.cell? ⟨P, 2, none⟩ = some (.int .i64 x.c.lc) := by rw [cell_of_row _ _ _ _ _ _ h.str]; rfl
theorem PAt.c6 (h : PAt w G P q x v) : w.cell? ⟨P, 6, none⟩ = some (.int .i64 x.st) := by rw [cell_of_row _ _ _ _ _ _ h.str]; rfl
theorem PAt.c7 (h : PAt w G P q x v) : w.cell? ⟨P, 7, none⟩ = some (.int .u64 (tlS x)) := by rw [cell_of_row _ _ _ _ _ _ h.str]; rfl
theorem PAt.c8 (h : PAt w G P q x v) : w.cell? ⟨P, 8, none⟩ = some (.int .u64 (lfS x)) := by rw [cell_of_row _ _ _ _ _ _ h.str]; rfl
theorem PAt.c9 (h : PAt w G P q x v) : w.cell? ⟨P, 9, none⟩ = some v := by rw [cell_of_row _ _ _ _ _ _ h.str]; rfl
theorem PAt.loadC (h : PAt w G P q x v) : (Instr.loadAt 28 (.pointer (some ⟨P, 1, none⟩))).run Tryd.prog w = .ok (.agg (ccells x.c).toArray) w :=
  run_loadAt_mid w P 1 28 (ccells x.c) _ (fun j u hu => by
    have hj : j < 5 := (List.getElem?_eq_some_iff.1 hu).1
    rw [cell_of_row _ _ _ _ _ _ h.str]
    match j, hj with
    | 0, _ => exact hu
    | 1, _ => exact hu
    | 2, _ => exact hu
    | 3, _ => exact hu
    | 4, _ => exact hu) Tryd.underlying28 rfl (by kernel_rfl)
theorem tlS_ne (h : x.st ≠ 1) : tlS x = x.en + x.c.lc := if_neg h
theorem lfS_ne (h : x.st ≠ 1) : lfS x = x.li + 1 := if_neg h
theorem pcl_st (h : x.st ≠ 1) {s : Int} (hs : s ≠ 1) : pcl q { x with st := s } v = (pcl q x v).set 6 (.int .i64 s) := by
  have a : tlS { x with st := s } = tlS x := (if_neg hs).trans (if_neg h).symm
  have b : lfS { x with st := s } = lfS x := (if_neg hs).trans (if_neg h).symm
  unfold pcl
  rw [a, b]; rfl
theorem PAt.goes (h : PAt w G P q x v) (hg : ¬ G P) (h1 : x.st ≠ 1) {s : Int} (hs : s ≠ 1) : w.setCell ⟨P, 6, none⟩ (.int .i64 s) = w.setRow P (pcl q { x with st := s } v).toArray ∧ PAt (w.setRow P (pcl q { x with st := s } v).toArray) G P q { x with st := s } v := by
  refine ⟨?_, setRow_heap w P _ _ 58 (0, 0) h.str, ?_⟩
  · rw [setCell_eq_setRow w P 6 _ 58 (0, 0) (.int .i64 s) h.str, pcl_st h1 hs]; congr 1
  · exact h.lf.keep (keptRow w P _) (fun g hg2 hl e => hg (by have e : g = P := e; rw [← e]; exact hg2)) (fun _ a => a)
theorem PAt.frozen (h : PAt w G P q x v) (j : Nat) : w.frozen? ⟨P, j, none⟩ = false := frozen_row (j := j) h.str
variable {X : List Kd} {i : Nat}
theorem Fz.goes (h : Fz w0 w X) (hi : X[i]? = some (kr P q x)) (h1 : x.st ≠ 1) {s : Int} (hs : s ≠ 1) : w.cell? ⟨P, 6, none⟩ = some (.int .i64 x.st) ∧ Fz w0 (w.setCell ⟨P, 6, none⟩ (.int .i64 s)) (X.set i (kr P q { x with st := s })) := by
  obtain ⟨G, v, hp, hg, hl⟩ := h.atr hi
  obtain ⟨e, hp'⟩ := hp.goes hg h1 hs
  rw [e]
  exact ⟨hp.c6, hl _ G q _ v hp' (keptRow w P _) (fun _ a => a) (fun _ a => .inl a)⟩
end
end Go.Proofs.YtdadpepfpiimgaaDoor.Q
namespace Go.Proofs.YtdadpepfpiimgaaDoor.Q
open Go.RowKit
section
variable {w0 w : World} {X : List Kd} {i j P p n : Nat} {q : Option Nat} {D : Dd} {x : Rc}
theorem Fz.rowbox (h : Fz w0 w X) : ∃ w1, (Instr.alloc 38 true (.tuple #[])).run Tryd.prog w = .ok (qp w.heap.size) w1 ∧ Below w.heap.size w w1 ∧ Fz w0 w1 (kb w.heap.size 38 row0 :: X) := ⟨_, alloc_row w, below_alloc w _, h.newa row0 38⟩
theorem Fz.laid (h : Fz w0 w (kb n 38 row0 :: X)) {r : Rw} (hr : r.val.length = 32) : ∃ w1, (Instr.storeAt 38 (qp n) (.agg (rowc r).toArray)).run Tryd.prog w = .ok () w1 ∧ LAt 38 w1 n (rowc r) ∧ Fz w0 w1 X := by
  obtain ⟨ha, _, _, hl⟩ := h.atb (i := 0) rfl
  have h1 := hl (rowc r)
  exact ⟨_, store_row ha (rowc_len (zs_len 32)) (rowc_len hr) (rowc_one r), (h1.atb (i := 0) rfl).1, Fz.pop (k := kb n 38 (rowc r)) h1⟩
set_option maxHeartbeats 2000000 in
set_option maxRecDepth 100000 in
theorem flush_at (h : Fz w0 w X) (hi : X[i]? = some (kr P (some p) x)) (hj : X[j]? = some (kd p n D)) (hij : i ≠ j) (hk : D.ws.length ≤ 100000) (hs : x.st = 3) : Calls Tryd.prog 21 #[qp P] w fun e w' => e = .returned (.tuple #[.agg (rowc ⟨12, -1, zv, 0, D.ws.length⟩).toArray, .int .i64 0]) ∧ Fz w0 w' ((X.set j (kd p n D.fls)).set i (kr P (some p) { x with st := 4 })) := by
  obtain ⟨w1, hal, hb1, h1⟩ := h.rowbox
  generalize w.heap.size = r at h1 hal hb1
  have HAL : Hid (_) := hal
  obtain ⟨G, v, hp, -⟩ := h1.atr (i := i + 1) hi
  have c0 := hp.c0
  have H1 : Hid (Fz w0 w1 (kb r 38 row0 :: X)) := h1
  clear h1 hp hal h hb1
  go_enter Tryd.func21, Tryd.ntmps21
  go_wp2_with ((with_reducible refine at_ops ?_); (refine wpList_alloc_is (by rfl) 38 rfl HAL.out ?_); simp only [Act.put, List.setIfInBounds_toArray, List.set_cons_zero, List.set_cons_succ])
  refine (p_flush (j := j + 1) H1.out hj hk).mono ?_
  rintro e w2 ⟨rfl, h2⟩
  have hi2 : (X.set j (kd p n D.fls))[i]? = some (kr P (some p) x) := by rw [List.getElem?_set_ne (Ne.symm hij)]; exact hi
  obtain ⟨G, v, hp, -⟩ := h2.atr (i := i + 1) hi2
  have f0 := hp.frozen 6
  obtain ⟨c6, h3⟩ := Fz.goes (i := i + 1) h2 hi2 (by omega) (s := 4) (by decide)
  obtain ⟨w3, hw3⟩ : ∃ W, w2.setCell ⟨P, 6, none⟩ (.int .i64 4) = W := ⟨_, rfl⟩
  have H3 : Hid (Fz w0 w3 (kb r 38 row0 :: (X.set j (kd p n D.fls)).set i (kr P (some p) { x with st := 4 }))) := by rw [← hw3]; exact h3
  have HBD : Hid (_) := build_row7 w3 12 D.ws.length
  obtain ⟨wz, hst, hlz, hfz⟩ := H3.out.laid (r := ⟨12, -1, zv, 0, D.ws.length⟩) (zs_len 32)
  have HST : Hid (_) := hst
  have HLz : Hid (_) := hlz
  have HFz : Hid (_) := hfz
  clear h2 h3 hp H1 HAL c0 hst hlz hfz H3 hj hi hi2
  go_wp2_with ((with_reducible refine at_ops ?_); (first | (refine wpList_build_is (vs := [(0, .int .i64 12), (4, .int .i64 (-1)), (7, .int .i64 D.ws.length)]) (by rfl) 38 rfl (by rfl) HBD.out ?_) | (refine wpList_store_is (by rfl) 38 rfl rfl rfl HST.out ?_)); simp only [Act.put, List.setIfInBounds_toArray, List.set_cons_zero, List.set_cons_succ])
  (try simp only [Exit.inBlock, Exit.then])
  exact bodyPost_ret (results_lat Tryd.results21 _ _ _ 38 _ _ (by rfl) HLz.out Tryd.underlying38 rfl (by rw [size_row, rowc_len (zs_len 32)])) rfl ⟨rfl, HFz.out⟩
set_option maxHeartbeats 2000000 in
set_option maxRecDepth 100000 in
theorem end_at (h : Fz w0 w X) (hi : X[i]? = some (kr P (some p) x)) (hj : X[j]? = some (kd p n D)) (hij : i ≠ j) (hk : D.ws.length ≤ 100000) (hs : x.st = 5) : Calls Tryd.prog 23 #[qp P] w fun e w' => e = .returned (.tuple #[.agg (rowc ⟨20, -1, zv, x.en + x.c.lc, 0⟩).toArray, .int .i64 0]) ∧ Fz w0 w' ((X.set j (kd p n D.fls)).set i (kr P (some p) { x with st := 6 })) := by
  obtain ⟨w1, hal, hb1, h1⟩ := h.rowbox
  generalize w.heap.size = r at h1 hal hb1
  have HAL : Hid (_) := hal
  obtain ⟨G, v, hp, -⟩ := h1.atr (i := i + 1) hi
  have c0 := hp.c0
  have H1 : Hid (Fz w0 w1 (kb r 38 row0 :: X)) := h1
  clear h1 hp hal h hb1
  go_enter Tryd.func23, Tryd.ntmps23
  go_wp2_with ((with_reducible refine at_ops ?_); (refine wpList_alloc_is (by rfl) 38 rfl HAL.out ?_); simp only [Act.put, List.setIfInBounds_toArray, List.set_cons_zero, List.set_cons_succ])
  refine (p_flush (j := j + 1) H1.out hj hk).mono ?_
  rintro e w2 ⟨rfl, h2⟩
  have hi2 : (X.set j (kd p n D.fls))[i]? = some (kr P (some p) x) := by rw [List.getElem?_set_ne (Ne.symm hij)]; exact hi
  obtain ⟨G, v, hp, -⟩ := h2.atr (i := i + 1) hi2
  have f0 := hp.frozen 6
  obtain ⟨c6, h3⟩ := Fz.goes (i := i + 1) h2 hi2 (by omega) (s := 6) (by decide)
  obtain ⟨w3, hw3⟩ : ∃ W, w2.setCell ⟨P, 6, none⟩ (.int .i64 6) = W := ⟨_, rfl⟩
  have H3 : Hid (Fz w0 w3 (kb r 38 row0 :: (X.set j (kd p n D.fls)).set i (kr P (some p) { x with st := 6 }))) := by rw [← hw3]; exact h3
  obtain ⟨G3, v3, hp3, -⟩ := H3.out.atr (i := i + 1) (by show ((X.set j (kd p n D.fls)).set i _)[i]? = _; rw [List.getElem?_set_self (by rw [List.length_set]; exact (List.getElem?_eq_some_iff.1 hi).1)])
  have c7 := hp3.c7
  rw [tlS_ne (by show (6 : Int) ≠ 1; decide)] at c7
  have HBD : Hid (_) := build_row6 w3 20 (x.en + x.c.lc)
  obtain ⟨wz, hst, hlz, hfz⟩ := H3.out.laid (r := ⟨20, -1, zv, x.en + x.c.lc, 0⟩) (zs_len 32)
  have HST : Hid (_) := hst
  have HLz : Hid (_) := hlz
  have HFz : Hid (_) := hfz
  clear h2 h3 hp hp3 H1 HAL c0 hst hlz hfz H3 hj hi hi2
  go_wp2_with ((with_reducible refine at_ops ?_); (first | (refine wpList_build_is (vs := [(0, .int .i64 20), (4, .int .i64 (-1)), (6, .int .u64 (x.en + x.c.lc))]) (by rfl) 38 rfl (by rfl) HBD.out ?_) | (refine wpList_store_is (by rfl) 38 rfl rfl rfl HST.out ?_)); simp only [Act.put, List.setIfInBounds_toArray, List.set_cons_zero, List.set_cons_succ])
  (try simp only [Exit.inBlock, Exit.then])
  exact bodyPost_ret (results_lat Tryd.results23 _ _ _ 38 _ _ (by rfl) HLz.out Tryd.underlying38 rfl (by rw [size_row, rowc_len (zs_len 32)])) rfl ⟨rfl, HFz.out⟩
set_option maxHeartbeats 2000000 in
set_option maxRecDepth 100000 in
theorem homeward_raw {w : World} {P : Nat} {a0 a1 a2 a3 a4 a5 a7 a8 : Value} {s : Int} {a : Option Addr} {m c : Nat} (hs : w.heap[P]? = some (.cells [a0, a1, a2, a3, a4, a5, .int .i64 s, a7, a8, .slice a m c].toArray 58 (0, 0))) : Calls Tryd.prog 36 #[qp P] w fun e w' => (∃ u, e = .returned u) ∧ w' = w.setRow P [a0, a1, a2, a3, a4, a5, .int .i64 (if m = 0 then 3 else 2), a7, a8, .slice a m c].toArray := by
  obtain ⟨w1, hw1⟩ : ∃ W, w.setCell ⟨P, 6, none⟩ (.int .i64 3) = W := ⟨_, rfl⟩
  have e1 : w1 = w.setRow P [a0, a1, a2, a3, a4, a5, .int .i64 3, a7, a8, .slice a m c].toArray := by rw [← hw1, setCell_eq_setRow w P 6 _ 58 (0, 0) _ hs]; congr 1
  have s1 : w1.heap[P]? = some (.cells [a0, a1, a2, a3, a4, a5, .int .i64 3, a7, a8, .slice a m c].toArray 58 (0, 0)) := by rw [e1]; exact setRow_heap w P _ _ 58 (0, 0) hs
  have c6 : w.cell? ⟨P, 6, none⟩ = some (.int .i64 s) := by rw [cell_of_row _ _ _ _ _ _ hs]; rfl
  have f6 : w.frozen? ⟨P, 6, none⟩ = false := frozen_row hs
  have d6 : w1.cell? ⟨P, 6, none⟩ = some (.int .i64 3) := by rw [cell_of_row _ _ _ _ _ _ s1]; rfl
  have d9 : w1.cell? ⟨P, 9, none⟩ = some (.slice a m c) := by rw [cell_of_row _ _ _ _ _ _ s1]; rfl
  have g6 : w1.frozen? ⟨P, 6, none⟩ = false := frozen_row s1
  by_cases hl : m = 0
  · subst hl
    have E1 : Hid (w1 = w.setRow P [a0, a1, a2, a3, a4, a5, .int .i64 3, a7, a8, .slice a 0 c].toArray) := e1
    clear hs s1 e1
    go_enter Tryd.func36, Tryd.ntmps36
    go_wp2
    go_end0
    exact ⟨⟨_, rfl⟩, E1.out⟩
  · have hp : (0 : Int) < m := by omega
    have E2 : Hid (w1.setCell ⟨P, 6, none⟩ (.int .i64 2) = w.setRow P [a0, a1, a2, a3, a4, a5, .int .i64 2, a7, a8, .slice a m c].toArray) := by
      show _ = _
      rw [setCell_eq_setRow w1 P 6 _ 58 (0, 0) _ s1, e1, setRow_setRow]; congr 1
    clear hs s1 e1
    go_enter Tryd.func36, Tryd.ntmps36
    go_wp2
    go_end0
    exact ⟨⟨_, rfl⟩, by first | exact E2.out | (rw [if_neg hl]; exact E2.out)⟩
end
end Go.Proofs.YtdadpepfpiimgaaDoor.Q
