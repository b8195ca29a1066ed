/-
  Layer 17: what stands in CacheDrops.
-/
import Derived.Test.YthcpnfelnonhnaaDm
namespace Go.Proofs.Ythcpnfelnonhnaa
open Go.RowKit

def B4 (S : List Bool) : List Value := S.map Value.bool
/-- a list of commits that came in -/
structure CmIn (w : World) (p : Option Addr) (m : Nat) (fl : Nat → Int) : Prop where
  cells : 0 < m → ∃ b o, p = some ⟨b, o, none⟩ ∧ ∀ i, i < m → ∃ q l c ss, w.cell? ⟨b, o + i * 2, none⟩ = some (.slice q l c) ∧ IIn w .i64 q l ss ∧ l ≤ 140737488355328 ∧ w.cell? ⟨b, o + i * 2 + 1, none⟩ = some (.int .u8 (fl i))
  byte : ∀ i, i < m → 0 ≤ fl i ∧ fl i < 256
theorem CmIn.later {w w' : World} {p : Option Addr} {m : Nat} {fl : Nat → Int} (h : CmIn w p m fl) (hb : Below w.heap.size w w') : CmIn w' p m fl := by
  refine ⟨fun h0 => ?_, h.byte⟩
  obtain ⟨b, o, e, hc⟩ := h.cells h0
  refine ⟨b, o, e, fun i hi => ?_⟩
  obtain ⟨q, l, c, ss, h1, h2, h3, h4⟩ := hc i hi
  exact ⟨q, l, c, ss, (hb.cell (World.block_lt_of_cell? w _ h1)).trans h1, h2.later hb, h3, (hb.cell (World.block_lt_of_cell? w _ h4)).trans h4⟩
structure Dr (w W : World) (Q : Nat) (ve : Value) (L : List En) (nx : Int) (bn bs : Nat) (N : List Int) (S : List Bool) (vt : Value) (T : List En) : Prop where
  bel : Below w.heap.size w W
  cac : CAt W Q 8 ve L nx
  nw : LAt 52 W bn (I64 N)
  sn : LAt 53 W bs (B4 S)
  told : EOwn 44 W w.heap.size vt T
  lq : w.heap.size ≤ Q
  ln : w.heap.size ≤ bn
  ls : w.heap.size ≤ bs
  le : ∀ g, ve.ownBlock = some g → w.heap.size ≤ g
  sep : ∀ g, vt.ownBlock = some g → ve.ownBlock ≠ some g
section
variable {w W W' : World} {Q bn bs : Nat} {ve vt : Value} {L T : List En} {nx : Int} {N : List Int} {S : List Bool}
theorem Dr.later (h : Dr w W Q ve L nx bn bs N S vt T) (hb : Below W.heap.size W W') : Dr w W' Q ve L nx bn bs N S vt T :=
  { h with bel := below_then h.bel hb, cac := h.cac.later hb, nw := LAt.later h.nw hb, sn := LAt.later h.sn hb, told := O.own_later h.told hb }
theorem lat_ne {t t' : TypeId} {g g' : Nat} {cs cs' : List Value} (h : LAt t W g cs) (h' : LAt t' W g' cs') (ht : t ≠ t') : g ≠ g' := fun e => by
  subst e
  have := h.symm.trans h'
  simp only [Option.some.injEq, Obj.cells.injEq] at this
  exact ht this.2.1
theorem CAt.lat (h : CAt W Q 8 ve L nx) : LAt 61 W Q [.int .i64 8, ve, .int .u64 nx] := h.st
theorem Dr.far {S0 : Nat → Prop} (h : Dr w W Q ve L nx bn bs N S vt T) (hk : Kept S0 W W') (h0 : ∀ k, k < w.heap.size → ¬ S0 k) (h1 : ¬ S0 Q) (h2 : ¬ S0 bn) (h3 : ¬ S0 bs) (h4 : ∀ g, ve.ownBlock = some g → ¬ S0 g) (h5 : ∀ g, vt.ownBlock = some g → ¬ S0 g) : Dr w W' Q ve L nx bn bs N S vt T :=
  { h with bel := hk.into h.bel h0 (Nat.le_refl _), cac := h.cac.far hk h1 h4, nw := (hk.block _ (LAt.lt h.nw) h2).trans h.nw, sn := (hk.block _ (LAt.lt h.sn) h3).trans h.sn, told := O.own_far h.told hk h5 }
/-- a row of other elements was written -/
theorem Dr.row {e : TypeId} {base size n : Nat} {v : Value} {xs : List Value} (h : Dr w W Q ve L nx bn bs N S vt T) (hr : W.ownsRow base e size v n xs) (hb : w.heap.size ≤ base) (he : e ≠ 61 ∧ e ≠ 52 ∧ e ≠ 53 ∧ e ≠ 44) (hk : Kept (fun b => v.ownBlock = some b) W W') : Dr w W' Q ve L nx bn bs N S vt T :=
  h.far hk (fun k hkw e2 => by have := (hr.lt k e2).1; omega) (O.own_not hr h.cac.st (Ne.symm he.1)) (O.own_not hr h.nw (Ne.symm he.2.1)) (O.own_not hr h.sn (Ne.symm he.2.2.1)) (fun g hg => O.own_ne h.cac.row hr (Ne.symm he.2.2.2) hg) (fun g hg => O.own_ne h.told hr (Ne.symm he.2.2.2) hg)
theorem Dr.put {ve' : Value} {L' : List En} {nx' : Int} (h : Dr w W Q ve L nx bn bs N S vt T) (hW : Wrt W W' Q 8 ve ve' L' nx') : Dr w W' Q ve' L' nx' bn bs N S vt T := by
  have hk := hW.kept
  have kb : ∀ {t : TypeId} {g : Nat} {cs : List Value}, LAt t W g cs → t ≠ 61 → t ≠ 44 → LAt t W' g cs := fun {t g cs} hl h1 h2 => (hk.block g (LAt.lt hl) (by
    rintro (e | e)
    · exact lat_ne hl h.cac.lat h1 e
    · exact O.own_not h.cac.row hl h2 e)).trans hl
  refine { h with bel := hk.into h.bel ?_ (Nat.le_refl _), cac := hW.at', nw := kb h.nw (by decide) (by decide), sn := kb h.sn (by decide) (by decide), told := O.own_far h.told hk ?_, le := fun g hg => ?_, sep := fun g hg e => ?_ }
  · rintro b hb (e | e)
    · have := h.lq; omega
    · have := h.le b e; omega
  · rintro g hg (e | e)
    · exact O.own_not h.told h.cac.st (by decide) (by rw [hg, e])
    · exact h.sep g hg e
  · rcases hW.new g hg with e | e
    · exact h.le g e
    · exact Nat.le_trans h.bel.size e
  · rcases hW.new g e with e | e
    · exact h.sep g hg e
    · have := (h.told.lt g hg).2; omega
theorem Dr.setN (h : Dr w W Q ve L nx bn bs N S vt T) (b : Nat) (v : Int) : Dr w (W.setCell ⟨bn, b, none⟩ (.int .i64 v)) Q ve L nx bn bs (N.set b v) S vt T := by
  have hk := Kept.setCell (w := W) bn b (.int .i64 v)
  refine { h with bel := hk.into h.bel (fun k hkk e => by have := h.ln; omega) (Nat.le_refl _), cac := h.cac.far hk (fun e => lat_ne h.cac.lat h.nw (by decide) e) (fun g hg e => O.own_not h.cac.row h.nw (by decide) (by rw [hg, e])), nw := ?_, sn := LAt.setO h.sn b _ (lat_ne h.sn h.nw (by decide)), told := O.own_far h.told hk (fun g hg e => O.own_not h.told h.nw (by decide) (by rw [hg, e])) }
  have := LAt.set h.nw b (.int .i64 v)
  rw [show I64 (N.set b v) = (I64 N).set b (.int .i64 v) by simp [I64, List.map_set]]
  exact this
theorem Dr.setS (h : Dr w W Q ve L nx bn bs N S vt T) (b : Nat) (v : Bool) : Dr w (W.setCell ⟨bs, b, none⟩ (.bool v)) Q ve L nx bn bs N (S.set b v) vt T := by
  have hk := Kept.setCell (w := W) bs b (.bool v)
  refine { h with bel := hk.into h.bel (fun k hkk e => by have := h.ls; omega) (Nat.le_refl _), cac := h.cac.far hk (fun e => lat_ne h.cac.lat h.sn (by decide) e) (fun g hg e => O.own_not h.cac.row h.sn (by decide) (by rw [hg, e])), sn := ?_, nw := LAt.setO h.nw b _ (lat_ne h.nw h.sn (by decide)), told := O.own_far h.told hk (fun g hg e => O.own_not h.told h.sn (by decide) (by rw [hg, e])) }
  have := LAt.set h.sn b (.bool v)
  rw [show B4 (S.set b v) = (B4 S).set b (.bool v) by simp [B4, List.map_set]]
  exact this
theorem Dr.tell {v : Value} (h : Dr w W Q ve L nx bn bs N S vt T) (hb : Below W.heap.size W W') (ho : EOwn 44 W' W.heap.size v L) : Dr w W' Q ve L nx bn bs N S v L :=
  { h.later hb with told := own_mono ho h.bel.size, sep := fun g hg e => by have h1 := (ho.lt g hg).1; have h2 := (h.cac.row.lt g e).2; omega }
theorem Dr.cN (h : Dr w W Q ve L nx bn bs N S vt T) {b : Nat} (hb : b < N.length) : W.cell? ⟨bn, b, none⟩ = some (.int .i64 (N.getD b 0)) := by
  rw [LAt.cell h.nw b]
  simp [I64, List.getD, List.getElem?_eq_getElem hb]
theorem Dr.cS (h : Dr w W Q ve L nx bn bs N S vt T) {b : Nat} (hb : b < S.length) : W.cell? ⟨bs, b, none⟩ = some (.bool (S.getD b false)) := by
  rw [LAt.cell h.sn b]
  simp [B4, List.getD, List.getElem?_eq_getElem hb]
theorem Dr.fN (h : Dr w W Q ve L nx bn bs N S vt T) (b : Nat) : W.frozen? ⟨bn, b, none⟩ = false := LAt.free h.nw b
theorem Dr.fS (h : Dr w W Q ve L nx bn bs N S vt T) (b : Nat) : W.frozen? ⟨bs, b, none⟩ = false := LAt.free h.sn b
end
/-- within a commit: the set of its blocks, and its images so far -/
structure Dq (w W : World) (Q : Nat) (ve : Value) (L : List En) (nx : Int) (bn bs : Nat) (N : List Int) (S : List Bool) (vt : Value) (T : List En) (vs : Value) (R : List Int) (vi : Value) (f : Int) (k : Nat) : Prop where
  dr : Dr w W Q ve L nx bn bs N S vt T
  set : W.ownsRow w.heap.size 3 1 vs R.length (I64 R)
  im : IOwn W w.heap.size vi (imsR (R.take k) f)
section
variable {w W W' : World} {Q bn bs k : Nat} {ve vt vs vi : Value} {L T : List En} {nx f : Int} {N R : List Int} {S : List Bool}
theorem Dq.later (h : Dq w W Q ve L nx bn bs N S vt T vs R vi f k) (hb : Below W.heap.size W W') : Dq w W' Q ve L nx bn bs N S vt T vs R vi f k := ⟨h.dr.later hb, O.own_later h.set hb, O.own_later h.im hb⟩
theorem Dq.cR (h : Dq w W Q ve L nx bn bs N S vt T vs R vi f k) {g c j : Nat} (hv : vs = .slice (some ⟨g, 0, none⟩) R.length c) (hj : j < R.length) : W.cell? ⟨g, j, none⟩ = some (.int .i64 (R.getD j 0)) := by
  subst hv
  refine O.own_cell h.set ?_
  simp [I64, List.getD, List.getElem?_eq_getElem hj]
theorem Dq.app {vi' : Value} {b : Int} (h : Dq w W Q ve L nx bn bs N S vt T vs R vi f k) (hb : R[k]? = some b) (ho : IOwn W' w.heap.size vi' (imsR (R.take k) f ++ [⟨b, valS f b⟩])) (hg : W.grownBy W' vi.ownBlock) : Dq w W' Q ve L nx bn bs N S vt T vs R vi' f (k + 1) := by
  have hk := O.kept_grown hg
  refine ⟨h.dr.row h.im (Nat.le_refl _) ⟨by decide, by decide, by decide, by decide⟩ hk, O.own_far h.set hk (fun g hg e => O.own_ne h.set h.im (by decide) hg e), ?_⟩
  obtain ⟨hl, eb⟩ := List.getElem?_eq_some_iff.1 hb
  rw [List.take_succ_eq_append_getElem hl, imsR_snoc, eb]
  exact ho
theorem Dq.setN (h : Dq w W Q ve L nx bn bs N S vt T vs R vi f k) (b : Nat) (v : Int) : Dq w (W.setCell ⟨bn, b, none⟩ (.int .i64 v)) Q ve L nx bn bs (N.set b v) S vt T vs R vi f k := by
  have hk := Kept.setCell (w := W) bn b (.int .i64 v)
  exact ⟨h.dr.setN b v, O.own_far h.set hk (fun g hg e => O.own_not h.set h.dr.nw (by decide) (by rw [hg, e])), O.own_far h.im hk (fun g hg e => O.own_not h.im h.dr.nw (by decide) (by rw [hg, e]))⟩
theorem Dq.setS (h : Dq w W Q ve L nx bn bs N S vt T vs R vi f k) (b : Nat) (v : Bool) : Dq w (W.setCell ⟨bs, b, none⟩ (.bool v)) Q ve L nx bn bs N (S.set b v) vt T vs R vi f k := by
  have hk := Kept.setCell (w := W) bs b (.bool v)
  exact ⟨h.dr.setS b v, O.own_far h.set hk (fun g hg e => O.own_not h.set h.dr.sn (by decide) (by rw [hg, e])), O.own_far h.im hk (fun g hg e => O.own_not h.im h.dr.sn (by decide) (by rw [hg, e]))⟩
theorem Dq.put {ve' : Value} {L' : List En} {nx' : Int} (h : Dq w W Q ve L nx bn bs N S vt T vs R vi f k) (hW : Wrt W W' Q 8 ve ve' L' nx') : Dq w W' Q ve' L' nx' bn bs N S vt T vs R vi f k := by
  refine ⟨h.dr.put hW, O.own_far h.set hW.kept ?_, O.own_far h.im hW.kept ?_⟩
  · rintro g hg (e | e)
    · exact O.own_not h.set h.dr.cac.st (by decide) (by rw [hg, e])
    · exact O.own_ne h.set h.dr.cac.row (by decide) hg e
  · rintro g hg (e | e)
    · exact O.own_not h.im h.dr.cac.st (by decide) (by rw [hg, e])
    · exact O.own_ne h.im h.dr.cac.row (by decide) hg e
/-- the images are not where the cache lies -/
theorem Dq.apart (h : Dq w W Q ve L nx bn bs N S vt T vs R vi f k) {a : Addr} {n c : Nat} (hv : vi = .slice (some a) n c) : ¬ (a.block = Q ∨ ve.ownBlock = some a.block) := by
  have e : vi.ownBlock = some a.block := by rw [hv]; rfl
  rintro (e1 | e1)
  · exact O.own_not h.im h.dr.cac.st (by decide) (by rw [e, e1])
  · exact O.own_ne h.im h.dr.cac.row (by decide) e e1
end
end Go.Proofs.Ythcpnfelnonhnaa
