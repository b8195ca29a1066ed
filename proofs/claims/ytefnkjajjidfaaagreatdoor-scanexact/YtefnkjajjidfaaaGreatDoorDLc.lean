/-
  Contracts of layer 4, third part: settle.
-/
import Derived.Test.YtefnkjajjidfaaaGreatDoorDLb
namespace Go.Proofs.YtefnkjajjidfaaaGreatDoor
open Go.RowKit
/-- what stands while writes become durable -/
structure Mid (w wr : World) (S : Nat → Prop) (p n : Nat) (ws : List Wr) (q cap : Nat) (v : Value) (D N : Nat → List Int) : Prop where
  str : wr.heap[p]? = some (.cells #[.slice (some ⟨q, 0, none⟩) n cap, .slice none 0 0] 114 (0, 0))
  pl : Pl wr q n cap D N
  wt : wr.ownsRow 0 121 65 v ws.length (WC ws)
  kp : Kept S w wr
theorem Mid.below {w wr w' : World} {S : Nat → Prop} {p n : Nat} {ws : List Wr} {q cap : Nat} {v : Value} {D N : Nat → List Int} (h : Mid w wr S p n ws q cap v D N) (hb : Below wr.heap.size wr w') : Mid w w' S p n ws q cap v D N :=
  have hp : p < wr.heap.size := Blk.lt (t := 114) (sz := 2) ⟨_, h.str, rfl⟩
  ⟨(hb.block p hp).trans h.str, h.pl.same (hb.block q h.pl.blk.lt), own_same h.wt (fun _ hk => hb.block _ ((own_ownBlk h.wt hk).elim fun _ hb => hb.lt)), h.kp.trans (T := fun _ => False) (Kept.of_below hb) (fun _ _ f => f.elim)⟩
theorem Mid.cell0 {w wr : World} {S : Nat → Prop} {p n : Nat} {ws : List Wr} {q cap : Nat} {v : Value} {D N : Nat → List Int} (h : Mid w wr S p n ws q cap v D N) : wr.cell? ⟨p, 0, none⟩ = some (.slice (some ⟨q, 0, none⟩) n cap) := by
  rw [cell_of_row _ _ _ _ 114 (0, 0) h.str]; rfl
theorem Mid.set {w wr : World} {S : Nat → Prop} {p n : Nat} {ws : List Wr} {q cap : Nat} {v : Value} {D N D' N' : Nat → List Int} (h : Mid w wr S p n ws q cap v D N) (hq : S q) (o : Nat) (vs : List Value) (hp : Pl (wr.setCells q o vs) q n cap D' N') : Mid w (wr.setCells q o vs) S p n ws q cap v D' N' := by
  have hb3 : Blk wr p 114 2 := ⟨_, h.str, rfl⟩
  have ho : ∀ k, k ≠ q → (wr.setCells q o vs).heap[k]? = wr.heap[k]? := fun k hk => setCells_other hk _ _ _
  refine ⟨(ho p (hb3.ne h.pl.blk (by decide))).trans h.str, hp, own_same h.wt (fun k hk => ?_), Kept.setCells (fun _ => hq) _ _ _ h.kp⟩
  obtain ⟨sz, hk'⟩ := own_ownBlk h.wt hk
  exact ho k (hk'.ne h.pl.blk (by decide))
theorem Mid.start {w : World} {S : Nat → Prop} {p n : Nat} {d : List Int} {ws : List Wr} {q cap : Nat} {v : Value} (h : PD w S p n d ws q cap v) : Mid w (w.setCell ⟨p, 1, none⟩ (.slice none 0 0)) S p n ws q cap v (sec d) (newest ws d) := by
  refine ⟨setCell_row (cs := [_, _]) h.str 1 _, h.pl.same (heap_setCell_other _ _ _ _ (fun e => h.pq e.symm)), own_same h.wt (fun k hk => heap_setCell_other _ _ _ _ (h.pv k hk).1), (Kept.refl S w).setCell (fun _ => h.sp) _⟩
theorem Mid.done {w wr : World} {S : Nat → Prop} {p n : Nat} {d : List Int} {ws : List Wr} {q cap : Nat} {v : Value} {N : Nat → List Int} {K : Nat → Bool} (h : Mid w wr S p n ws q cap v (sec (settle K ws d)) N) (hp : PD w S p n d ws q cap v) (hn : ∀ i, i < n → N i = sec (settle K ws d) i) : Dsk wr S p n (settle K ws d) [] :=
  ⟨q, cap, .slice none 0 0, h.str, h.pl.congr (fun _ _ => rfl) (fun i hi => hn i hi), World.ownsRow_nil _ _ _ _, hp.sp, hp.sq, fun k hk => (by simp [Value.ownBlock] at hk), hp.n1, hp.n2, setl_length hp.dl hp.fit _, setl_bytes hp.db hp.fit _, Fit.nil _⟩
/-- the write number k lies there -/
theorem wt_range {w : World} {v : Value} {ws : List Wr} {n k : Nat} (h : w.ownsRow 0 121 65 v ws.length (WC ws)) (hf : Fit n ws) (hk : k < ws.length) : ∃ g c, v = .slice (some ⟨g, 0, none⟩) ws.length c ∧ w.rangeAt g (k * 65) (wcell ws[k]) := by
  obtain ⟨pv, c, rfl, h0, h1⟩ := own_slice h
  cases pv with
  | none => have := (h0 rfl).1; omega
  | some a =>
    obtain ⟨g, rfl⟩ := h1 a rfl
    refine ⟨g, c, rfl, own_range_part h (fun j u hu => ?_)⟩
    have hj : j < 65 := by
      have := (List.getElem?_eq_some_iff.1 hu).1
      simpa [wcell, (hf.at k hk).2.1] using this
    have e := flat_at (ws.map wcell) (wcell_length hf) k (by simpa using hk) j hj
    rw [Nat.mul_comm] at e
    unfold WC
    rw [e]
    simpa using hu
end Go.Proofs.YtefnkjajjidfaaaGreatDoor
