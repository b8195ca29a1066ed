/-
  Layer 10, plain: what is found of a story that was written.
-/
import Derived.Test.YtefnkjajjidfaaaDoorEk
namespace Go.Proofs.YtefnkjajjidfaaaDoor
open Go.RowKit


theorem newest_bytes {w : World} {S : Nat → Prop} {p n : Nat} {d : List Int} {ws : List Wr} (h : Dsk w S p n d ws) : ∀ i, Bytes (newest ws d i) := by
  obtain ⟨q, cap, v, hp⟩ := h
  exact fun i => newk_bytes hp.db hp.fit _
theorem Sty.found {c : Sup} {g : Lg} {ws : List Wr} {al : List R.Rec} {s : Sc} (h : Sty c g ws al s) {rd : Nat → List Int} (hr : ∀ i, i < cntS c → rd i = newest ws (newS c) i) (hb : ∀ i, Bytes (rd i)) :
    rdL c (cntS c) rd = (⟨0, 1, s.fin, s.txs⟩, 0) ∧ Sc.Ok c.mr 0 c.lc.toNat s := by
  have hm := h.mc
  obtain ⟨e1, e2⟩ := h.fin_is
  have hlc := hm.2.1
  have hbl := hm.1
  have hin : ∀ q : Nat, q < c.lc.toNat → (1 + c.bl + q).toNat < cntS c := fun q hq => by unfold cntS; omega
  obtain ⟨s', f1, f2, -, -⟩ := h.run (rd := rd) (k := al.length) (Nat.le_refl _) (fun q hq => hr _ (hin q (by omega))) (fun hk => by
    have hq : ((al.length : Int) % c.lc) = al.length := lg_eq (by omega) (by omega)
    refine st_blank ?_
    rw [hq, hr _ (hin _ hk)]
    have := h.blank al.length (by omega) (by omega)
    unfold secN at this
    rw [h.gc, hq] at this
    exact this)
  rw [List.take_length, h.fold] at f1
  obtain rfl : s = s' := by cases f1; rfl
  refine ⟨rdL_new hm ((hr 0 (by unfold cntS; omega)).trans h.sup) f2, ?_⟩
  have hmr : 0 ≤ c.mr := by have := hm.2.2.1; omega
  have r := Sc.Ok.run (st := stS c rd) (mr := c.mr) (t := 0) hmr (Int.le_refl 0) (fun p => stS_wf hb) c.lc.toNat 0 ⟨[], 0, []⟩ (Sc.Ok.start hmr 0) (by have := hm.2.1; omega)
  rw [show ((0 : Int) + ((0 : Nat) : Int)) = 0 from rfl, f2, Nat.zero_add] at r
  exact r
end Go.Proofs.YtefnkjajjidfaaaDoor
