/-
  Layer 9, the document's log: may, lay.
-/
import Derived.Test.YtmcpjokbkkfgfaaGreatDoorT20
import Derived.Test.YtmcpjokbkkfgfaaGreatDoorT12
import Derived.Test.YtmcpjokbkkfgfaaGreatDoorT21
import Derived.Test.YtmcpjokbkkfgfaaGreatDoorT14
namespace Go.Proofs.YtmcpjokbkkfgfaaGreatDoor
open Go.RowKit


set_option maxHeartbeats 1000000 in
set_option maxRecDepth 100000 in
theorem rmay_none {w : World} {L : Nat} {g : Lg} {b : Int} (h : HAt w L none g b) : Calls Tryz.prog 83 #[.pointer (some ⟨L, 0, none⟩)] w fun e w' => e = .returned (.int .i64 1) ∧ w = w' := by
  have c0 := HAt.c0 h
  clear h
  go_enter Tryz.func83, Tryz.ntmps83
  go_wp2
  go_ret
  exact ⟨rfl, rfl⟩
set_option maxHeartbeats 1000000 in
set_option maxRecDepth 100000 in
theorem rmay_at {w : World} {L p : Nat} {g : Lg} {b : Int} (h : HAt w L (some ⟨p, 0, none⟩) g b) (ok : g.Ok) : Calls Tryz.prog 83 #[.pointer (some ⟨L, 0, none⟩)] w fun e w' => e = .returned (.int .i64 (moreS g)) ∧ Below w.heap.size w w' := by
  have HG : Hid (HAt w L (some ⟨p, 0, none⟩) g b) := h
  have HO : Hid g.Ok := ok
  have HR : Hid (Below w.heap.size w w) := Below.refl _ _
  have c0 := HAt.c0 h
  have c8 := HAt.c8 h
  have hf : 0 ≤ g.fin ∧ g.fin ≤ 4611686018427387904 := by have := ok.t0; have := ok.tm; have := ok.mf; have := ok.fM; omega
  clear h ok
  go_enter Tryz.func83, Tryz.ntmps83
  by_cases h1 : g.fin = 4611686018427387904
  · have HE : Hid (moreS g = 31) := moreS_max h1
    go_wp2_with fail
    go_ret
    exact ⟨by rw [HE.out]; rfl, HR.out⟩
  · by_cases h2 : g.fin - g.tail = g.c.lc
    · have HE : Hid (moreS g = 90) := moreS_full h1 h2
      go_wp2_with fail
      refine wp_region_noPanic ?_
      refine wp_region_held_drew (S := fun w' => Below w.heap.size w w') (by kernel_rfl) (below_drawn 1) (fun hHeld => ?_)
      have D : Hid (Below w.heap.size w w.drew) := hHeld
      generalize w.drew = wd at *
      have HC2 : Hid (∀ w', Below w.heap.size w w' → w'.cell? ⟨L, 2, none⟩ = some (.int .i64 g.c.lc)) := fun w' hb => HAt.c2 (LAt.later HG.out hb)
      refine wpAnyH_take (i := 0) (v := ?va1) (by simp; rfl) (by kernel_rfl) (by kernel_rfl) (by kernel_rfl) (fun _ _ _ h => h) (Or.inl ⟨by rfl, ?ya1⟩) hHeld ?ra1
      case ya1 => intro w hSw; clear hSw; go_simp; with_reducible rfl
      simp only [Act.put, List.setIfInBounds_toArray, List.set_cons_zero, List.set_cons_succ]
      refine wpAnyH_take (i := 2) (v := ?va2) (by simp; rfl) (by kernel_rfl) (by kernel_rfl) (by kernel_rfl) (fun _ _ _ h => h) (Or.inl ⟨by rfl, ?ya2⟩) hHeld ?ra2
      case ya2 => intro w hSw; clear hSw; go_simp; with_reducible rfl
      simp only [Act.put, List.setIfInBounds_toArray, List.set_cons_zero, List.set_cons_succ]
      refine wpAnyH_take (i := 3) (v := ?va3) (by simp; rfl) (by kernel_rfl) (by kernel_rfl) (by kernel_rfl) (fun _ _ _ h => h) (Or.inl ⟨by rfl, ?ya3⟩) hHeld ?ra3
      case ya3 => intro w hSw; clear hSw; go_simp; with_reducible rfl
      simp only [Act.put, List.setIfInBounds_toArray, List.set_cons_zero, List.set_cons_succ]
      refine wpAnyH_take (i := 4) (v := ?va4) (by simp; rfl) (by kernel_rfl) (by kernel_rfl) (by kernel_rfl) (fun _ _ _ h => h) (Or.inl ⟨by rfl, ?ya4⟩) hHeld ?ra4
      case ya4 => intro w hSw; clear hSw; go_simp; with_reducible rfl
      simp only [Act.put, List.setIfInBounds_toArray, List.set_cons_zero, List.set_cons_succ]
      refine wpAnyH_take (i := 5) (v := ?va5) (by simp; rfl) (by kernel_rfl) (by kernel_rfl) (by kernel_rfl) (fun _ _ _ h => h) (Or.inl ⟨by rfl, ?ya5⟩) hHeld ?ra5
      case ya5 => intro w hSw; clear hSw; go_simp; with_reducible rfl
      simp only [Act.put, List.setIfInBounds_toArray, List.set_cons_zero, List.set_cons_succ]
      refine wpAnyH_take (i := 6) (v := ?va6) (by simp; rfl) (by kernel_rfl) (by kernel_rfl) (by kernel_rfl) (fun _ _ _ h => h) (Or.inl ⟨by rfl, ?ya6⟩) hHeld ?ra6
      case ya6 => intro w hSw; have z := (HC2.out _ hSw); clear hSw; go_simp; with_reducible rfl
      simp only [Act.put, List.setIfInBounds_toArray, List.set_cons_zero, List.set_cons_succ]
      refine wpAnyH_ready (rs := [1]) (by kernel_rfl) (by simp) ?_
      refine AllReadyH.cons (by simp; rfl) (fun Kc hKc => ?_) AllReadyH.nil
      go_simp
      refine (rused_at (LAt.later HG.out D.out) HO.out).mono ?_
      rintro e wn ⟨rfl, bn⟩
      have hB : Hid (Below w.heap.size w wn) := below_then D.out bn
      refine hKc.out _ _ hB.out (fun hHeld => ?_)
      clear hKc Kc bn
      refine wpAnyH_take (i := 7) (v := ?va7) (by simp; rfl) (by kernel_rfl) (by kernel_rfl) (by kernel_rfl) (fun _ _ _ h => h) (Or.inl ⟨by rfl, ?ya7⟩) hHeld ?ra7
      case ya7 => intro w hSw; clear hSw; go_simp; with_reducible rfl
      simp only [Act.put, List.setIfInBounds_toArray, List.set_cons_zero, List.set_cons_succ]
      refine wpAnyH_take (i := 8) (v := ?va8) (by simp; rfl) (by kernel_rfl) (by kernel_rfl) (by kernel_rfl) (fun _ _ _ h => h) (Or.inl ⟨by rfl, ?ya8⟩) hHeld ?ra8
      case ya8 => intro w hSw; clear hSw; go_simp; with_reducible rfl
      simp only [Act.put, List.setIfInBounds_toArray, List.set_cons_zero, List.set_cons_succ]
      clear hHeld
      refine wpAnyH_done (by kernel_rfl) (NoPanic.normal ?_) _
      have hq : (g.fin - g.tail == g.c.lc) = true := by simp [h2]
      go_wp2_with fail
      go_ret
      exact ⟨by rw [HE.out]; rfl, hB.out⟩
    · have HE : Hid (moreS g = 0) := moreS_ok h1 h2
      go_wp2_with fail
      refine wp_region_noPanic ?_
      refine wp_region_held_drew (S := fun w' => Below w.heap.size w w') (by kernel_rfl) (below_drawn 1) (fun hHeld => ?_)
      have D : Hid (Below w.heap.size w w.drew) := hHeld
      generalize w.drew = wd at *
      have HC2 : Hid (∀ w', Below w.heap.size w w' → w'.cell? ⟨L, 2, none⟩ = some (.int .i64 g.c.lc)) := fun w' hb => HAt.c2 (LAt.later HG.out hb)
      refine wpAnyH_take (i := 0) (v := ?va9) (by simp; rfl) (by kernel_rfl) (by kernel_rfl) (by kernel_rfl) (fun _ _ _ h => h) (Or.inl ⟨by rfl, ?ya9⟩) hHeld ?ra9
      case ya9 => intro w hSw; clear hSw; go_simp; with_reducible rfl
      simp only [Act.put, List.setIfInBounds_toArray, List.set_cons_zero, List.set_cons_succ]
      refine wpAnyH_take (i := 2) (v := ?va10) (by simp; rfl) (by kernel_rfl) (by kernel_rfl) (by kernel_rfl) (fun _ _ _ h => h) (Or.inl ⟨by rfl, ?ya10⟩) hHeld ?ra10
      case ya10 => intro w hSw; clear hSw; go_simp; with_reducible rfl
      simp only [Act.put, List.setIfInBounds_toArray, List.set_cons_zero, List.set_cons_succ]
      refine wpAnyH_take (i := 3) (v := ?va11) (by simp; rfl) (by kernel_rfl) (by kernel_rfl) (by kernel_rfl) (fun _ _ _ h => h) (Or.inl ⟨by rfl, ?ya11⟩) hHeld ?ra11
      case ya11 => intro w hSw; clear hSw; go_simp; with_reducible rfl
      simp only [Act.put, List.setIfInBounds_toArray, List.set_cons_zero, List.set_cons_succ]
      refine wpAnyH_take (i := 4) (v := ?va12) (by simp; rfl) (by kernel_rfl) (by kernel_rfl) (by kernel_rfl) (fun _ _ _ h => h) (Or.inl ⟨by rfl, ?ya12⟩) hHeld ?ra12
      case ya12 => intro w hSw; clear hSw; go_simp; with_reducible rfl
      simp only [Act.put, List.setIfInBounds_toArray, List.set_cons_zero, List.set_cons_succ]
      refine wpAnyH_take (i := 5) (v := ?va13) (by simp; rfl) (by kernel_rfl) (by kernel_rfl) (by kernel_rfl) (fun _ _ _ h => h) (Or.inl ⟨by rfl, ?ya13⟩) hHeld ?ra13
      case ya13 => intro w hSw; clear hSw; go_simp; with_reducible rfl
      simp only [Act.put, List.setIfInBounds_toArray, List.set_cons_zero, List.set_cons_succ]
      refine wpAnyH_take (i := 6) (v := ?va14) (by simp; rfl) (by kernel_rfl) (by kernel_rfl) (by kernel_rfl) (fun _ _ _ h => h) (Or.inl ⟨by rfl, ?ya14⟩) hHeld ?ra14
      case ya14 => intro w hSw; have z := (HC2.out _ hSw); clear hSw; go_simp; with_reducible rfl
      simp only [Act.put, List.setIfInBounds_toArray, List.set_cons_zero, List.set_cons_succ]
      refine wpAnyH_ready (rs := [1]) (by kernel_rfl) (by simp) ?_
      refine AllReadyH.cons (by simp; rfl) (fun Kc hKc => ?_) AllReadyH.nil
      go_simp
      refine (rused_at (LAt.later HG.out D.out) HO.out).mono ?_
      rintro e wn ⟨rfl, bn⟩
      have hB : Hid (Below w.heap.size w wn) := below_then D.out bn
      refine hKc.out _ _ hB.out (fun hHeld => ?_)
      clear hKc Kc bn
      refine wpAnyH_take (i := 7) (v := ?va15) (by simp; rfl) (by kernel_rfl) (by kernel_rfl) (by kernel_rfl) (fun _ _ _ h => h) (Or.inl ⟨by rfl, ?ya15⟩) hHeld ?ra15
      case ya15 => intro w hSw; clear hSw; go_simp; with_reducible rfl
      simp only [Act.put, List.setIfInBounds_toArray, List.set_cons_zero, List.set_cons_succ]
      refine wpAnyH_take (i := 8) (v := ?va16) (by simp; rfl) (by kernel_rfl) (by kernel_rfl) (by kernel_rfl) (fun _ _ _ h => h) (Or.inl ⟨by rfl, ?ya16⟩) hHeld ?ra16
      case ya16 => intro w hSw; clear hSw; go_simp; with_reducible rfl
      simp only [Act.put, List.setIfInBounds_toArray, List.set_cons_zero, List.set_cons_succ]
      clear hHeld
      refine wpAnyH_done (by kernel_rfl) (NoPanic.normal ?_) _
      have hq : (g.fin - g.tail == g.c.lc) = false := by simp [h2]
      go_wp2_with fail
      go_ret
      exact ⟨by rw [HE.out]; rfl, hB.out⟩
theorem rwrite_at {w : World} {S : Nat → Prop} {p n : Nat} {d : List Int} {ws : List Wr} (h : Ref w S p n d ws) (i : Int) (h0 : 0 ≤ i) (h1 : i < n) (a : Option Addr) (c : Nat) (b : List Int) (hb : BIn w a 64 b) (hk : ws.length ≤ 100000) : Calls Tryz.prog 63 #[.pointer (some ⟨p, 0, none⟩), .int .i64 i, .slice a 64 c] w fun e w' => e = .returned (.int .i64 0) ∧ Ref w' (More S w) p n d (ws ++ [⟨i.toNat, b⟩]) ∧ Kept S w w' := by
  have e0 : ((i.toNat : Nat) : Int) = i := by omega
  have := rwrite_good h i.toNat (by omega) a c b hb hk
  rw [e0] at this
  exact this
set_option maxHeartbeats 2000000 in
set_option maxRecDepth 100000 in
theorem rlay_low {w : World} {S : Nat → Prop} {L p : Nat} {d : List Int} {ws : List Wr} {g : Lg} {b : Int} (h : RL w S L p d ws g b) (hS : ∀ k, S k → k < w.heap.size) (hk : ws.length ≤ 100000) (r : R.Rec) (hv : r.val.length = 32) (hw : R.Rec.Wf ⟨r.kind, g.fin, r.block, r.val, r.images⟩) (hm : R.may ⟨r.kind, g.fin, r.block, r.val, r.images⟩ = true) (hf : g.fin < 4611686018427387904) :
    Calls Tryz.prog 84 #[.pointer (some ⟨L, 0, none⟩), .agg (R.rcells r).toArray] w fun e w' => e = .returned (.int .u64 g.fin) ∧ Ref w' (More (fun k => S k ∧ k ≠ L) w) p g.sz d (ws ++ [⟨(secN g g.fin).toNat, R.encS ⟨r.kind, g.fin, r.block, r.val, r.images⟩⟩]) ∧ HAt w' L (some ⟨p, 0, none⟩) (addG g) b ∧ Kept S w w' := by
  obtain ⟨r', hr'⟩ : ∃ x : R.Rec, x = ⟨r.kind, g.fin, r.block, r.val, r.images⟩ := ⟨_, rfl⟩
  rw [← hr'] at hw hm ⊢
  have hlr : r'.val.length = 32 := by rw [hr']; exact hv
  have hpos : r'.pos = g.fin := by rw [hr']
  have hset : (R.rcells r).set 1 (.int .u64 g.fin) = R.rcells r' := by rw [hr']; rfl
  have hget : (R.rcells r)[1]? = some (.int .u64 r.pos) := rfl
  obtain ⟨w1, hw1⟩ : ∃ x, x = w.alloc (.cells (R.rcells r').toArray 87) := ⟨_, rfl⟩
  have ew := hw1.symm
  have HG : Hid (RL w S L p d ws g b) := h
  have HS : Hid (∀ k, S k → k < w.heap.size) := hS
  have HW : Hid (r'.Wf ∧ R.may r' = true) := ⟨hw, hm⟩
  have B1 : Hid (Below w.heap.size w w1) := by rw [hw1]; exact below_alloc w _
  have A1 : Hid (R.RAt 87 w1 w.heap.size r') := by rw [hw1]; exact R.RAt.new 87 w r'
  have L1 : Hid (_) := R.RAt.load37 A1.out hlr
  have hf0 : 0 ≤ g.fin := by have := h.ok.t0; have := h.ok.tm; have := h.ok.mf; omega
  have hLlt := LAt.lt h.log
  have c8 := HAt.c8 h.log
  clear h hS hw1 hr' hw hm
  go_enter Tryz.func84, Tryz.ntmps84
  go_wp2_with ((with_reducible refine at_ops ?_); (refine wpList_load_is (by rfl) 87 rfl rfl L1.out ?_); simp only [Act.put, List.setIfInBounds_toArray, List.set_cons_zero, List.set_cons_succ])
  refine (R.refEncode_good r' HW.out.1 HW.out.2 w1).mono ?_
  rintro e w2 ⟨q2, c2', rfl, m2⟩
  have B2 : Hid (Below w.heap.size w w2) := below_then B1.out m2.below
  have HG2 : Hid (RL w2 S L p d ws g b) := HG.out.later B2.out
  have A2 : Hid (R.RAt 87 w2 w.heap.size r') := R.RAt.later A1.out m2.below
  have X2 : Hid (BIn w2 q2 64 (R.encS r')) := m2.read
  clear m2 A1 L1 ew hget hset c8
  go_wp2_with fail
  refine wp_region_noPanic ?_
  refine wp_region_held_drew (S := fun w' => w'.cell? ⟨L, 0, none⟩ = some (.pointer (some ⟨p, 0, none⟩)) ∧ w'.cell? ⟨L, 8, none⟩ = some (.int .u64 g.fin)) (by kernel_rfl) ⟨HAt.c0 HG2.out.log, HAt.c8 HG2.out.log⟩ (fun hHeld => ?_)
  have D2 : Hid (Below w2.heap.size w2 w2.drew) := below_drawn 1
  generalize w2.drew = wd at *
  refine wpAnyH_take (i := 0) (v := ?va17) (by simp; rfl) (by kernel_rfl) (by kernel_rfl) (by kernel_rfl) (fun _ _ _ h => h) (Or.inl ⟨by rfl, ?ya17⟩) hHeld ?ra17
  case ya17 => intro w hSw; clear hSw; go_simp; with_reducible rfl
  simp only [Act.put, List.setIfInBounds_toArray, List.set_cons_zero, List.set_cons_succ]
  refine wpAnyH_take (i := 1) (v := ?va18) (by simp; rfl) (by kernel_rfl) (by kernel_rfl) (by kernel_rfl) (fun _ _ _ h => h) (Or.inl ⟨by rfl, ?ya18⟩) hHeld ?ra18
  case ya18 => intro w hSw; clear hSw; go_simp; with_reducible rfl
  simp only [Act.put, List.setIfInBounds_toArray, List.set_cons_zero, List.set_cons_succ]
  refine wpAnyH_take (i := 2) (v := ?va19) (by simp; rfl) (by kernel_rfl) (by kernel_rfl) (by kernel_rfl) (fun _ _ _ h => h) (Or.inl ⟨by rfl, ?ya19⟩) hHeld ?ra19
  case ya19 => intro w hSw; clear hSw; go_simp; with_reducible rfl
  simp only [Act.put, List.setIfInBounds_toArray, List.set_cons_zero, List.set_cons_succ]
  refine wpAnyH_take (i := 3) (v := ?va20) (by simp; rfl) (by kernel_rfl) (by kernel_rfl) (by kernel_rfl) (fun _ _ _ h => h) (Or.inl ⟨by rfl, ?ya20⟩) hHeld ?ra20
  case ya20 => intro w hSw; have z := hSw.1; clear hSw; go_simp; with_reducible rfl
  simp only [Act.put, List.setIfInBounds_toArray, List.set_cons_zero, List.set_cons_succ]
  refine wpAnyH_take (i := 4) (v := ?va21) (by simp; rfl) (by kernel_rfl) (by kernel_rfl) (by kernel_rfl) (fun _ _ _ h => h) (Or.inl ⟨by rfl, ?ya21⟩) hHeld ?ra21
  case ya21 => intro w hSw; clear hSw; go_simp; with_reducible rfl
  simp only [Act.put, List.setIfInBounds_toArray, List.set_cons_zero, List.set_cons_succ]
  refine wpAnyH_take (i := 5) (v := ?va22) (by simp; rfl) (by kernel_rfl) (by kernel_rfl) (by kernel_rfl) (fun _ _ _ h => h) (Or.inl ⟨by rfl, ?ya22⟩) hHeld ?ra22
  case ya22 => intro w hSw; clear hSw; go_simp; with_reducible rfl
  simp only [Act.put, List.setIfInBounds_toArray, List.set_cons_zero, List.set_cons_succ]
  refine wpAnyH_take (i := 6) (v := ?va23) (by simp; rfl) (by kernel_rfl) (by kernel_rfl) (by kernel_rfl) (fun _ _ _ h => h) (Or.inl ⟨by rfl, ?ya23⟩) hHeld ?ra23
  case ya23 => intro w hSw; clear hSw; go_simp; with_reducible rfl
  simp only [Act.put, List.setIfInBounds_toArray, List.set_cons_zero, List.set_cons_succ]
  refine wpAnyH_take (i := 7) (v := ?va24) (by simp; rfl) (by kernel_rfl) (by kernel_rfl) (by kernel_rfl) (fun _ _ _ h => h) (Or.inl ⟨by rfl, ?ya24⟩) hHeld ?ra24
  case ya24 => intro w hSw; clear hSw; go_simp; with_reducible rfl
  simp only [Act.put, List.setIfInBounds_toArray, List.set_cons_zero, List.set_cons_succ]
  refine wpAnyH_take (i := 8) (v := ?va25) (by simp; rfl) (by kernel_rfl) (by kernel_rfl) (by kernel_rfl) (fun _ _ _ h => h) (Or.inl ⟨by rfl, ?ya25⟩) hHeld ?ra25
  case ya25 => intro w hSw; have z := hSw.2; clear hSw; go_simp; with_reducible rfl
  simp only [Act.put, List.setIfInBounds_toArray, List.set_cons_zero, List.set_cons_succ]
  refine wpAnyH_take (i := 10) (v := ?va26) (by simp; rfl) (by kernel_rfl) (by kernel_rfl) (by kernel_rfl) (fun _ _ _ h => h) (Or.inl ⟨by rfl, ?ya26⟩) hHeld ?ra26
  case ya26 => intro w hSw; clear hSw; go_simp; with_reducible rfl
  simp only [Act.put, List.setIfInBounds_toArray, List.set_cons_zero, List.set_cons_succ]
  refine wpAnyH_ready (rs := [9]) (by kernel_rfl) (by simp) ?_
  refine AllReadyH.cons (by simp; rfl) (fun Kc hKc => ?_) AllReadyH.nil
  go_simp
  refine (rsector_at (LAt.later HG2.out.log D2.out) HG.out.ok g.fin hf0).mono ?_
  rintro e wn ⟨rfl, bn⟩
  have DN : Hid (Below wd.heap.size wd wn) := bn
  have HGn : Hid (RL wn S L p d ws g b) := (HG2.out.later D2.out).later bn
  refine hKc.out _ _ ⟨HAt.c0 HGn.out.log, HAt.c8 HGn.out.log⟩ (fun hHeld => ?_)
  clear hKc Kc bn
  refine wpAnyH_ready (rs := [11]) (by kernel_rfl) (by simp) ?_
  refine AllReadyH.cons (by simp; rfl) (fun Kc hKc => ?_) AllReadyH.nil
  go_simp
  refine (rwrite_at HGn.out.dsk (secN g g.fin) (secN_in HG.out.ok _).1 (secN_in HG.out.ok _).2 q2 c2' _ ((X2.out.later D2.out).later DN.out) hk).mono ?_
  rintro e w3 ⟨rfl, d3, k3⟩
  have Y3 : Hid (Ref w3 (More (fun k => S k ∧ k ≠ L) wn) p g.sz d (ws ++ [⟨(secN g g.fin).toNat, R.encS r'⟩]) ∧ HAt w3 L (some ⟨p, 0, none⟩) g b ∧ Kept (fun k => S k ∧ k ≠ L) wn w3 ∧ w3.cell? ⟨w.heap.size, 1, none⟩ = some (.int .u64 g.fin)) := by
    have hz := B2.out.size
    have hz2 := D2.out.size
    have hz3 := DN.out.size
    have hA := A2.out.lt
    refine ⟨d3, (k3.block L (by omega) (fun t => t.2 rfl)).trans HGn.out.log, k3, ?_⟩
    rw [World.cell?_of_block (k3.block w.heap.size (by omega) (fun t => by have := HS.out _ t.1; omega)), ← hpos]
    exact (R.RAt.later (R.RAt.later A2.out D2.out) DN.out).c1
  clear d3 k3
  refine hKc.out _ _ ⟨HAt.c0 Y3.out.2.1, HAt.c8 Y3.out.2.1⟩ (fun hHeld => ?_)
  clear hKc Kc
  refine wpAnyH_done (by kernel_rfl) (NoPanic.normal ?_) _
  have c8 := HAt.c8 Y3.out.2.1
  have cf := HAt.free Y3.out.2.1 8
  have c1 := Y3.out.2.2.2
  have hne : ¬ L = w.heap.size := by omega
  have hne2 : ¬ w.heap.size = L := by omega
  have k1 : IntKind.u64.wrap (g.fin + 1) = g.fin + 1 := G.wrap_u (by omega) (by omega)
  clear hHeld X2 A2
  go_wp2_with fail
  go_ret
  have hs2 := B2.out.size
  have hs3 := Y3.out.2.2.1.size
  refine ⟨rfl, ?_, HAt.setF Y3.out.2.1 _, ?_⟩
  · refine (Y3.out.1.kept (kept_set w3 L 8 (.int .u64 (g.fin + 1))) ?_).mono ?_
    · rintro k (hs | hs) rfl
      · exact hs.2 rfl
      · have := D2.out.size; have := DN.out.size; omega
    · rintro k _ (hs | hs)
      · exact .inl hs
      · exact .inr (by have := D2.out.size; have := DN.out.size; omega)
  · exact ((Kept.of_below (S := S) (below_then (below_then B2.out D2.out) DN.out)).trans (T := fun k => S k ∧ k ≠ L) Y3.out.2.2.1 (fun _ _ t => t.1)).setCell (p := ⟨L, 8, none⟩) (fun _ => HG.out.sl) _
theorem rlay_good {w : World} {S : Nat → Prop} {L p : Nat} {d : List Int} {ws : List Wr} {g : Lg} {b : Int} (h : RL w S L p d ws g b) (hk : ws.length ≤ 100000) (r : R.Rec) (hv : r.val.length = 32) (hw : R.Rec.Wf ⟨r.kind, g.fin, r.block, r.val, r.images⟩) (hm : R.may ⟨r.kind, g.fin, r.block, r.val, r.images⟩ = true) (hf : g.fin < 4611686018427387904) :
    Calls Tryz.prog 84 #[.pointer (some ⟨L, 0, none⟩), .agg (R.rcells r).toArray] w fun e w' => e = .returned (.int .u64 g.fin) ∧ Ref w' (More (fun k => S k ∧ k ≠ L) w) p g.sz d (ws ++ [⟨(secN g g.fin).toNat, R.encS ⟨r.kind, g.fin, r.block, r.val, r.images⟩⟩]) ∧ HAt w' L (some ⟨p, 0, none⟩) (addG g) b ∧ Kept S w w' := by
  refine (rlay_low (h.mono (T := fun k => S k ∧ k < w.heap.size) fun k hk s => ⟨s, hk⟩) (fun _ s => s.2) hk r hv hw hm hf).mono ?_
  rintro e w' ⟨rfl, h1, h2, h3⟩
  refine ⟨rfl, h1.mono ?_, h2, h3.wider fun _ _ s => s.1⟩
  rintro k _ (hs | hs)
  · exact .inl ⟨hs.1.1, hs.2⟩
  · exact .inr hs
end Go.Proofs.YtmcpjokbkkfgfaaGreatDoor

/-
  Layer 9, the document's log: Flush, Free, Over, Commit.
-/
namespace Go.Proofs.YtmcpjokbkkfgfaaGreatDoor
open Go.RowKit


theorem rdflush_at {w : World} {S : Nat → Prop} {p n : Nat} {d : List Int} {ws : List Wr} (h : Ref w S p n d ws) (hk : ws.length ≤ 100000) :
    Calls Tryz.prog 85 #[.pointer (some ⟨p, 0, none⟩)] w fun e w' => e = .returned (.int .i64 ws.length) ∧ Ref w' S p n (settle (fun _ => true) ws d) [] ∧ Kept S w w' := by
  refine (rflush_any (h.mono (T := fun k => S k ∧ k < w.heap.size) fun k hk s => ⟨s, hk⟩) hk (fun _ s => s.2)).mono ?_
  rintro e w' ⟨rfl, h1, h2⟩
  exact ⟨rfl, h1.mono fun _ _ s => s.1, h2.wider fun _ _ s => s.1⟩
set_option maxHeartbeats 1000000 in
set_option maxRecDepth 100000 in
theorem rlflush_none {w : World} {L : Nat} {g : Lg} {b : Int} (h : HAt w L none g b) : Calls Tryz.prog 52 #[.pointer (some ⟨L, 0, none⟩)] w fun e w' => e = .returned (.tuple #[.int .i64 0, .int .i64 1]) ∧ w = w' := by
  have c0 := HAt.c0 h
  clear h
  go_enter Tryz.func52, Tryz.ntmps52
  go_wp2
  go_ret2
  exact ⟨rfl, rfl⟩
set_option maxHeartbeats 1000000 in
set_option maxRecDepth 100000 in
theorem rlfree_none {w : World} {L : Nat} {g : Lg} {b : Int} (h : HAt w L none g b) : Calls Tryz.prog 54 #[.pointer (some ⟨L, 0, none⟩)] w fun e w' => e = .returned (.tuple #[.int .i64 0, .int .i64 1]) ∧ w = w' := by
  have c0 := HAt.c0 h
  clear h
  go_enter Tryz.func54, Tryz.ntmps54
  go_wp2
  go_ret2
  exact ⟨rfl, rfl⟩
set_option maxHeartbeats 1000000 in
set_option maxRecDepth 100000 in
theorem rlflush_at {w : World} {S : Nat → Prop} {L p : Nat} {d : List Int} {ws : List Wr} {g : Lg} {b : Int} (h : RL w S L p d ws g b) (hk : ws.length ≤ 100000) : Calls Tryz.prog 52 #[.pointer (some ⟨L, 0, none⟩)] w fun e w' => e = .returned (.tuple #[.int .i64 ws.length, .int .i64 0]) ∧ RL w' S L p (settle (fun _ => true) ws d) [] g b ∧ Kept S w w' := by
  have c0 := HAt.c0 h.log
  have HG : Hid (RL w S L p d ws g b) := h
  clear h
  go_enter Tryz.func52, Tryz.ntmps52
  go_wp2_with fail
  refine (rdflush_at HG.out.dsk hk).mono ?_
  rintro e w1 ⟨rfl, d1, k1⟩
  have HF : Hid (_) := HG.out.flushed d1 k1
  clear d1 k1
  go_wp2_with fail
  go_ret2
  exact ⟨rfl, HF.out⟩
set_option maxHeartbeats 1000000 in
set_option maxRecDepth 100000 in
theorem rlfree_at {w : World} {S : Nat → Prop} {L p : Nat} {d : List Int} {ws : List Wr} {g : Lg} {b : Int} (h : RL w S L p d ws g b) (hk : ws.length ≤ 100000) : Calls Tryz.prog 54 #[.pointer (some ⟨L, 0, none⟩)] w fun e w' => e = .returned (.tuple #[.int .i64 (g.mark - g.tail), .int .i64 0]) ∧ RL w' S L p (settle (fun _ => true) ws d) [] (frG g) b ∧ Kept S w w' := by
  have hn : 0 ≤ g.mark - g.tail ∧ g.mark - g.tail ≤ 64 := by have := h.ok.tm; have := h.ok.mf; have := h.ok.us; have := h.ok.cf.2.1; omega
  have c0 := HAt.c0 h.log
  have HH : Hid (RL w S L p d ws g b) := h
  clear h
  go_enter Tryz.func54, Tryz.ntmps54
  go_wp2_with fail
  refine (rdflush_at HH.out.dsk hk).mono ?_
  rintro e w1 ⟨rfl, d1, kk⟩
  obtain ⟨h1, hkp⟩ := HH.out.flushed d1 kk
  have HG : Hid (HAt w1 L (some ⟨p, 0, none⟩) g b) := h1.log
  have HR : Hid (RL w1 S L p (settle (fun _ => true) ws d) [] g b) := h1
  have HK : Hid (Kept S w w1) := hkp
  have k1 : IntKind.u64.wrap (g.mark - g.tail) = g.mark - g.tail := G.wrap_u hn.1 (by omega)
  have k2 : IntKind.i64.wrap (g.mark - g.tail) = g.mark - g.tail := by rw [IntKind.wrap_i64]; omega
  clear h1 hkp d1 kk c0
  go_wp2_with fail
  refine wp_region_noPanic ?_
  refine wp_region_held_drew (S := fun w' => Below w1.heap.size w1 w') (by kernel_rfl) (below_drawn 1) (fun hHeld => ?_)
  have D : Hid (Below w1.heap.size w1 w1.drew) := hHeld
  generalize w1.drew = wd at *
  refine wpAnyH_take (i := 0) (v := ?va1) (by simp; rfl) (by kernel_rfl) (by kernel_rfl) (by kernel_rfl) (fun _ _ _ h => h) (Or.inl ⟨by rfl, ?ya1⟩) hHeld ?ra1
  case ya1 => intro w hSw; clear hSw; go_simp; with_reducible rfl
  simp only [Act.put, List.setIfInBounds_toArray, List.set_cons_zero, List.set_cons_succ]
  refine wpAnyH_take (i := 1) (v := ?va2) (by simp; rfl) (by kernel_rfl) (by kernel_rfl) (by kernel_rfl) (fun _ _ _ h => h) (Or.inl ⟨by rfl, ?ya2⟩) hHeld ?ra2
  case ya2 => intro w hSw; clear hSw; go_simp; with_reducible rfl
  simp only [Act.put, List.setIfInBounds_toArray, List.set_cons_zero, List.set_cons_succ]
  refine wpAnyH_take (i := 2) (v := ?va3) (by simp; rfl) (by kernel_rfl) (by kernel_rfl) (by kernel_rfl) (fun _ _ _ h => h) (Or.inl ⟨by rfl, ?ya3⟩) hHeld ?ra3
  case ya3 => intro w hSw; clear hSw; go_simp; with_reducible rfl
  simp only [Act.put, List.setIfInBounds_toArray, List.set_cons_zero, List.set_cons_succ]
  refine wpAnyH_take (i := 3) (v := ?va4) (by simp; rfl) (by kernel_rfl) (by kernel_rfl) (by kernel_rfl) (fun _ _ _ h => h) (Or.inl ⟨by rfl, ?ya4⟩) hHeld ?ra4
  case ya4 => intro w hSw; have z := HAt.c9 (LAt.later HG.out hSw); clear hSw; go_simp; with_reducible rfl
  simp only [Act.put, List.setIfInBounds_toArray, List.set_cons_zero, List.set_cons_succ]
  refine wpAnyH_take (i := 4) (v := ?va5) (by simp; rfl) (by kernel_rfl) (by kernel_rfl) (by kernel_rfl) (fun _ _ _ h => h) (Or.inl ⟨by rfl, ?ya5⟩) hHeld ?ra5
  case ya5 => intro w hSw; clear hSw; go_simp; with_reducible rfl
  simp only [Act.put, List.setIfInBounds_toArray, List.set_cons_zero, List.set_cons_succ]
  refine wpAnyH_take (i := 5) (v := ?va6) (by simp; rfl) (by kernel_rfl) (by kernel_rfl) (by kernel_rfl) (fun _ _ _ h => h) (Or.inl ⟨by rfl, ?ya6⟩) hHeld ?ra6
  case ya6 => intro w hSw; clear hSw; go_simp; with_reducible rfl
  simp only [Act.put, List.setIfInBounds_toArray, List.set_cons_zero, List.set_cons_succ]
  refine wpAnyH_take (i := 6) (v := ?va7) (by simp; rfl) (by kernel_rfl) (by kernel_rfl) (by kernel_rfl) (fun _ _ _ h => h) (Or.inl ⟨by rfl, ?ya7⟩) hHeld ?ra7
  case ya7 => intro w hSw; clear hSw; go_simp; with_reducible rfl
  simp only [Act.put, List.setIfInBounds_toArray, List.set_cons_zero, List.set_cons_succ]
  refine wpAnyH_take (i := 7) (v := ?va8) (by simp; rfl) (by kernel_rfl) (by kernel_rfl) (by kernel_rfl) (fun _ _ _ h => h) (Or.inl ⟨by rfl, ?ya8⟩) hHeld ?ra8
  case ya8 => intro w hSw; have z := HAt.c7 (LAt.later HG.out hSw); clear hSw; go_simp; with_reducible rfl
  simp only [Act.put, List.setIfInBounds_toArray, List.set_cons_zero, List.set_cons_succ]
  refine wpAnyH_take (i := 8) (v := ?va9) (by simp; rfl) (by kernel_rfl) (by kernel_rfl) (by kernel_rfl) (fun _ _ _ h => h) (Or.inl ⟨by rfl, ?ya9⟩) hHeld ?ra9
  case ya9 => intro w hSw; clear hSw; go_simp; with_reducible rfl
  simp only [Act.put, List.setIfInBounds_toArray, List.set_cons_zero, List.set_cons_succ]
  refine wpAnyH_take (i := 9) (v := ?va10) (by simp; rfl) (by kernel_rfl) (by kernel_rfl) (by kernel_rfl) (fun _ _ _ h => h) (Or.inl ⟨by rfl, ?ya10⟩) hHeld ?ra10
  case ya10 => intro w hSw; clear hSw; go_simp; with_reducible rfl
  simp only [Act.put, List.setIfInBounds_toArray, List.set_cons_zero, List.set_cons_succ]
  refine wpAnyH_take (i := 10) (v := ?va11) (by simp; rfl) (by kernel_rfl) (by kernel_rfl) (by kernel_rfl) (fun _ _ _ h => h) (Or.inl ⟨by rfl, ?ya11⟩) hHeld ?ra11
  case ya11 => intro w hSw; clear hSw; go_simp; with_reducible rfl
  simp only [Act.put, List.setIfInBounds_toArray, List.set_cons_zero, List.set_cons_succ]
  clear hHeld
  refine wpAnyH_done (by kernel_rfl) (NoPanic.normal ?_) _
  have c9 := HAt.c9 (LAt.later HG.out D.out)
  have c7 := HAt.c7 (LAt.later HG.out D.out)
  have cf := HAt.free (LAt.later HG.out D.out) 7
  go_wp2_with fail
  go_ret2
  refine ⟨rfl, ?_, ?_⟩
  · have hd := HR.out.later D.out
    exact hd.set 7 _ (g' := frG g) (HAt.setT hd.log g.mark) rfl (frG_ok hd.ok) hd.bk
  · exact (HK.out.trans (T := S) (Kept.of_below D.out) (fun _ _ t => t)).setCell (p := ⟨L, 7, none⟩) (fun _ => HH.out.sl) _
theorem zeroRL : (Tryz.prog.info? 85).bind (·.zero) = some (.agg (lcells none lg0).toArray) := by kernel_rfl
theorem sizeRL : (Tryz.prog.info? 85).map (·.size) = some 12 := by kernel_rfl
theorem allocRL (w : World) : (Instr.alloc 85 true (.tuple #[])).run Tryz.prog w = .ok (.pointer (some ⟨w.heap.size, 0, none⟩)) (w.alloc (.cells (lcells none lg0).toArray 85)) := by
  simp [Instr.alloc, zv 85 _ zeroRL w, newVar, newRow, Value.cells]
theorem HAt.loadL {w : World} {L : Nat} {dp : Option Addr} {g : Lg} {b : Int} (h : HAt w L dp g b) : (Instr.loadAt 85 (.pointer (some ⟨L, 0, none⟩))).run Tryz.prog w = .ok (.agg (lcells dp (wb g b)).toArray) w :=
  run_loadAt_mid w L 0 85 (lcells dp (wb g b)) _ (LAt.range h) Tryz.underlying85 rfl (by rw [sizeRL]; rfl)
theorem store_newRL (w : World) (dp : Option Addr) (g : Lg) : (Instr.storeAt 85 (.pointer (some ⟨w.heap.size, 0, none⟩)) (.agg (lcells dp g).toArray)).run Tryz.prog (w.alloc (.cells (lcells none lg0).toArray 85)) = .ok () (w.alloc (.cells (lcells dp g).toArray 85)) := by
  rw [LAt.store (ds := lcells dp g) (LAt.new 85 w (lcells none lg0)) (by rw [sizeRL]; rfl) rfl (lcells_all dp g), setRow_alloc]
set_option maxHeartbeats 1000000 in
set_option maxRecDepth 100000 in
theorem rover_at {w : World} {L : Nat} {dp : Option Addr} {g : Lg} {b : Int} (h : HAt w L dp g b) (q : Option Addr) : Calls Tryz.prog 34 #[.pointer (some ⟨L, 0, none⟩), .pointer q] w fun e w' => ∃ K, e = .returned (.pointer (some ⟨K, 0, none⟩)) ∧ w.heap.size ≤ K ∧ HAt w' K q g b ∧ Below w.heap.size w w' := by
  have L1 : Hid (_) := HAt.loadL h
  have A1 : Hid (_) := allocRL w
  have T1 : Hid (_) := store_newRL w dp (wb g b)
  have HG : Hid (HAt (w.alloc (.cells (lcells dp (wb g b)).toArray 85)) w.heap.size dp g b) := LAt.new 85 w _
  have cf := HAt.free HG.out 0
  have c0 := HAt.c0 HG.out
  have HB : Hid (Below w.heap.size w (w.alloc (.cells (lcells dp (wb g b)).toArray 85))) := below_alloc w _
  clear h
  go_enter Tryz.func34, Tryz.ntmps34
  go_wp2_with ((with_reducible refine at_ops ?_); (first | (refine wpList_load_is (by rfl) 85 rfl rfl L1.out ?_) | (refine wpList_alloc_is (by rfl) 85 rfl A1.out ?_) | (refine wpList_store_is (by rfl) 85 rfl rfl rfl T1.out ?_)); simp only [Act.put, List.setIfInBounds_toArray, List.set_cons_zero, List.set_cons_succ])
  go_ret
  exact ⟨w.heap.size, rfl, Nat.le_refl _, LAt.new 85 w (lcells q (wb g b)), below_alloc w _⟩
theorem rbuild_com (w : World) (i : Int) : (Instr.build 87 #[(0, .int .i64 2), (4, .int .i64 i)]).run Tryz.prog w = .ok (.agg (R.rcells ⟨2, 0, 0, R.zs 32, i⟩).toArray) w :=
  R.build37 w _ _ (by
    show Instr.fill _ _ [(0, .int .i64 2), (4, .int .i64 i)] = _
    rw [R.fill_k R.rec0 R.rec0_len, R.fill_i ⟨2, R.rec0.pos, R.rec0.block, R.rec0.val, R.rec0.images⟩ R.rec0_len, R.fill_end]; rfl)
set_option maxHeartbeats 1000000 in
set_option maxRecDepth 100000 in
theorem rcommit_no {w : World} {L p : Nat} {g : Lg} {b : Int} (h : HAt w L (some ⟨p, 0, none⟩) g b) (ok : g.Ok) (hm : ¬ moreS g = 0) : Calls Tryz.prog 51 #[.pointer (some ⟨L, 0, none⟩)] w fun e w' => e = .returned (.tuple #[.int .u64 0, .int .i64 (moreS g)]) ∧ Below w.heap.size w w' := by
  go_enter Tryz.func51, Tryz.ntmps51
  go_wp2_with fail
  refine (rmay_at h ok).mono ?_
  rintro e w1 ⟨rfl, b1⟩
  have HB1 : Hid (Below w.heap.size w w1) := b1
  obtain ⟨m, hq⟩ : ∃ m, m = moreS g := ⟨_, rfl⟩
  have HQ : Hid (m = moreS g) := hq
  rw [← hq] at hm ⊢
  clear h ok b1 hq
  go_wp2_with fail
  go_ret2
  exact ⟨by rw [← HQ.out]; rfl, HB1.out⟩
set_option maxHeartbeats 2000000 in
set_option maxRecDepth 100000 in
theorem rcommit_ok {w : World} {S : Nat → Prop} {L p : Nat} {d : List Int} {ws : List Wr} {g : Lg} {b : Int} (h : RL w S L p d ws g b) (hk : ws.length ≤ 100000) (hm : moreS g = 0) :
    Calls Tryz.prog 51 #[.pointer (some ⟨L, 0, none⟩)] w fun e w' => e = .returned (.tuple #[.int .u64 g.fin, .int .i64 0]) ∧ RL w' (More S w) L p d (ws ++ [⟨(secN g g.fin).toNat, R.encS (comR g)⟩]) (comG g) b ∧ Kept S w w' := by
  have HG : Hid (RL w S L p d ws g b) := h
  have HM : Hid (moreS g = 0) := hm
  clear h
  go_enter Tryz.func51, Tryz.ntmps51
  go_wp2_with fail
  refine (rmay_at HG.out.log HG.out.ok).mono ?_
  rintro e w2 ⟨rfl, b1⟩
  have HB2 : Hid (Below w.heap.size w w2) := b1
  have HG2 : Hid (RL w2 S L p d ws g b) := HG.out.later HB2.out
  have c10 := HAt.c10 HG2.out.log
  have U2 : Hid (_) := rbuild_com w2 g.imgs
  rw [hm]
  clear b1 hm
  go_wp2_with ((with_reducible refine at_ops ?_); (refine wpList_build_is (vs := [(0, .int .i64 2), (4, .int .i64 g.imgs)]) (by rfl) 87 rfl (by rfl) U2.out ?_); simp only [Act.put, List.setIfInBounds_toArray, List.set_cons_zero, List.set_cons_succ])
  refine (rlay_good HG2.out hk ⟨2, 0, 0, R.zs 32, g.imgs⟩ (R.zs_len 32) (comR_wf HG.out.ok) (comR_may HG.out.ok) (by have := (moreS_zero HM.out).1; have := HG.out.ok.fM; omega)).mono ?_
  rintro e w3 ⟨rfl, d3, g3, k3⟩
  have c10' := HAt.c10 g3
  have cf10 := HAt.free g3 10
  have Y3 : Hid (Ref w3 (More (fun k => S k ∧ k ≠ L) w2) p g.sz d (ws ++ [⟨(secN g g.fin).toNat, R.encS (comR g)⟩]) ∧ HAt w3 L (some ⟨p, 0, none⟩) (addG g) b ∧ Kept S w2 w3) := ⟨d3, g3, k3⟩
  clear d3 g3 k3 U2 c10
  go_wp2_with fail
  go_ret2
  have hs := HB2.out.size
  have hL := LAt.lt HG.out.log
  refine ⟨rfl, ?_, ?_⟩
  · have a1 := HAt.setI Y3.out.2.1 0
    refine ⟨a1, ?_, .inl HG.out.sl, comG_ok HG.out.ok HM.out, fun h => absurd h (Int.lt_irrefl 0)⟩
    show Ref _ _ p g.sz d _
    refine (Y3.out.1.kept (kept_set w3 L 10 _) ?_).mono ?_
    · rintro k (h | h) rfl
      · exact h.2 rfl
      · omega
    · rintro k _ (h | h)
      · exact ⟨.inl h.1, h.2⟩
      · exact ⟨.inr (by omega), by omega⟩
  · exact ((Kept.of_below (S := S) HB2.out).trans (T := S) Y3.out.2.2 (fun _ _ t => t)).setCell (p := ⟨L, 10, none⟩) (fun _ => HG.out.sl) _
end Go.Proofs.YtmcpjokbkkfgfaaGreatDoor
