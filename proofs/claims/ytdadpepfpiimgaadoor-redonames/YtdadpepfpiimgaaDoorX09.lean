import Derived.Test.YtdadpepfpiimgaaDoorX08
set_option maxHeartbeats 20000000
set_option maxRecDepth 100000
namespace Go.Proofs.YtdadpepfpiimgaaDoor
theorem log0_wf : log0.Wf := ⟨by decide, by decide, by decide, TxsWf.nil, Nat.zero_le _, fun x hx => by cases hx⟩
theorem scanS_ok {c : Sup} {n : Int} {rd : Nat → List Int} (hb : ∀ i, Bytes (rd i)) (h : (supOf c n rd).2 = 0) : Sc.Ok c.mr (supOf c n rd).1.tail c.lc.toNat (scRun (stS c rd) c.mr c.lc.toNat (supOf c n rd).1.tail ⟨[], (supOf c n rd).1.tail, []⟩) := by
  obtain ⟨h1, h2, h3, h4, h5⟩ := supOf_zero h
  have hm := (decS_good _ h3).1
  have hw := decS_wf _ (hb 0)
  rw [h5]
  have ht := hw.tail
  have hT := hm.2.1
  have := Sc.Ok.run (st := stS c rd) (mr := c.mr) (t := (decS (rd 0)).1.tail) (by have := h1.2.2.1.1; omega) ht.1 (fun p => stS_wf hb) c.lc.toNat 0 ⟨[], (decS (rd 0)).1.tail, []⟩ (Sc.Ok.start (by have := h1.2.2.1.1; omega) _) (by have := h1.2.1.2; omega)
  rw [show (decS (rd 0)).1.tail + ((0 : Nat) : Int) = (decS (rd 0)).1.tail by omega, Nat.zero_add] at this
  exact this
theorem rdL_wf {c : Sup} {n : Int} {rd : Nat → List Int} (hb : ∀ i, Bytes (rd i)) : (rdL c n rd).1.Wf := by
  by_cases h : (supOf c n rd).2 = 0
  · rw [rdL_ok h]
    obtain ⟨h1, h2, h3, h4, h5⟩ := supOf_zero h
    have k : Sc.Ok c.mr (decS (rd 0)).1.tail c.lc.toNat (scRun (stS c rd) c.mr c.lc.toNat (decS (rd 0)).1.tail ⟨[], (decS (rd 0)).1.tail, []⟩) := by
      have := scanS_ok hb h
      rw [h5] at this
      exact this
    have hm := (decS_good _ h3).1
    have hw := decS_wf _ (hb 0)
    rw [h5]
    show (scanS c rd (decS (rd 0)).1).Wf
    have ht := hw.tail; have hT := hm.2.1; have hl := hw.life
    have hlc := h1.2.1
    have hmr := h1.2.2.1
    refine ⟨ht, hl, ⟨by have := k.f0; show 0 ≤ (scRun _ _ _ _ _).fin; omega, by have := k.f1; show (scRun _ _ _ _ _).fin ≤ _; omega⟩, k.tw, by have := k.tl; show (scRun _ _ _ _ _).txs.length ≤ _; omega, fun x hx => by have := k.cm x hx; omega⟩
  · rw [rdL_no h]; exact log0_wf
end Go.Proofs.YtdadpepfpiimgaaDoor
namespace Go.Proofs.YtdadpepfpiimgaaDoor
theorem withS_wf {l : List Im} {x : Im} (h : ImsWf l) (hx : x.Wf) : ImsWf (withS l x) := by
  induction l with
  | nil => intro z hz; rw [show z = x by simpa [withS] using hz]; exact hx
  | cons y l ih =>
    have hy := h y (List.mem_cons.2 (.inl rfl))
    have hl : ImsWf l := fun z hz => h z (List.mem_cons.2 (.inr hz))
    rcases Int.lt_trichotomy y.b x.b with c | c | c
    · rw [withS_lt l c]; intro z hz
      rcases List.mem_cons.1 hz with e | hz
      · rw [e]; exact hy
      · exact ih hl z hz
    · rw [withS_eq l c]; exact h
    · rw [withS_gt l c]; intro z hz
      rcases List.mem_cons.1 hz with e | hz
      · rw [e]; exact hx
      · exact h z hz
theorem nwS_wf : ∀ {l}, ImsWf l → ImsWf (nwS l)
  | [], _ => ImsWf.nil
  | x :: _, h => withS_wf (nwS_wf fun z hz => h z (List.mem_cons.2 (.inr hz))) (h x (List.mem_cons.2 (.inl rfl)))
end Go.Proofs.YtdadpepfpiimgaaDoor
