/-
  Layer 9, the document's log: Image, taken.
-/
import Derived.Test.YtmcpjokbkkfgfaaGreatDoorT23
import Derived.Test.YtmcpjokbkkfgfaaGreatDoorT13
namespace Go.Proofs.YtmcpjokbkkfgfaaGreatDoor
open Go.RowKit


/-- the image is counted, not yet laid -/
abbrev midG (g : Lg) (b : Int) : Lg := { g with imgs := g.imgs + 1, last := b }
theorem midG_ok {g : Lg} (h : g.Ok) {b : Int} (h0 : imgS g b = 0) : (midG g b).Ok := by
  have k := imgG_ok h h0
  exact ⟨h.cf, h.l0, h.l1, h.t0, h.tm, h.mf, h.fM, h.us, k.i0, k.i1, k.b0, k.b1, k.il⟩
set_option maxHeartbeats 4000000 in
set_option maxRecDepth 100000 in
theorem rimage_ok {w : World} {S : Nat → Prop} {L p : Nat} {d : List Int} {ws : List Wr} {g : Lg} {bo : Int} (h : RL w S L p d ws g bo) (hk : ws.length ≤ 100000) (b : Int) (v : List Int) (hv : v.length = 32) (hvb : Bytes v) (hi : imgS g b = 0) :
    Calls Tryz.prog 50 #[.pointer (some ⟨L, 0, none⟩), .int .i64 b, .agg (U8 v).toArray] w fun e w' => e = .returned (.tuple #[.int .u64 g.fin, .int .i64 0]) ∧ RL w' (More S w) L p d (ws ++ [⟨(secN g g.fin).toNat, R.encS (imgR g b v)⟩]) (imgG g b) b ∧ Kept S w w' := by
  obtain ⟨wa, hwa⟩ : ∃ x, x = w.alloc (.cells (U8 v).toArray 49) := ⟨_, rfl⟩
  have ewa := hwa.symm
  have HB : Hid (Below w.heap.size w wa) := by rw [hwa]; exact below_alloc w _
  have V0 : Hid (LAt 49 wa w.heap.size (U8 v)) := by rw [hwa]; exact LAt.new 49 w (U8 v)
  have HG : Hid (RL w S L p d ws g bo) := h
  have HI : Hid (imgS g b = 0) := hi
  have HV : Hid (v.length = 32 ∧ Bytes v) := ⟨hv, hvb⟩
  have hm := (imgS_zero hi).1
  have hb := (imgS_zero hi).2
  have HMB : Hid (moreS g = 0 ∧ ¬ Bad g b) := ⟨hm, hb⟩
  have hi0 := h.ok.i0
  have hi1 := h.ok.i1
  have hmr := h.ok.cf.2.2.1
  have hl0 := h.ok.b0
  have HIL : Hid (0 < g.imgs → ¬ b ≤ bo) := fun h5 h6 => hb (.inl (by rw [h.bk h5] at h6; exact h6))
  clear h hi hwa hv hvb
  go_enter Tryz.func50, Tryz.ntmps50
  go_wp2_with fail
  refine (rmay_at (HG.out.later HB.out).log HG.out.ok).mono ?_
  rintro e w1 ⟨rfl, b1⟩
  have HB1 : Hid (Below w.heap.size w w1) := below_then HB.out b1
  have HG1 : Hid (RL w1 S L p d ws g bo) := HG.out.later HB1.out
  have V1 : Hid (LAt 49 w1 w.heap.size (U8 v)) := LAt.later V0.out b1
  have HC : Hid (∀ w', Below w1.heap.size w1 w' → HAt w' L (some ⟨p, 0, none⟩) g bo) := fun w' hb => LAt.later HG1.out.log hb
  rw [hm]
  have h1 : ¬ b < 0 := fun h => hb (.inl (by omega))
  have h2 : ¬ g.c.bl ≤ b := fun h => hb (.inr (.inl h))
  have h3 : ¬ g.c.mr ≤ g.imgs := fun h => hb (.inr (.inr h))
  have hd1 : decide (b < 0) = false := by simp; omega
  have hd2 : decide (g.c.bl ≤ b) = false := by simp; omega
  have hd3 : decide (g.c.mr ≤ g.imgs) = false := by simp; omega
  clear b1 HB hm hb V0 ewa
  by_cases h5 : 0 < g.imgs
  · have h6 := HIL.out h5
    have hd4 : decide (b ≤ bo) = false := by simp; omega
    go_wp2_with fail
    refine wp_region_noPanic ?_
    refine wp_region_held_drew (S := fun w' => Below w1.heap.size w1 w') (by kernel_rfl) (below_drawn 1) (fun hHeld => ?_)
    have D1 : Hid (Below w1.heap.size w1 w1.drew) := hHeld
    generalize w1.drew = wd at *
    refine wpAnyH_take (i := 0) (v := ?va1) (by simp; rfl) (by kernel_rfl) (by kernel_rfl) (by kernel_rfl) (fun _ _ _ h => h) (Or.inl ⟨by rfl, ?ya1⟩) hHeld ?ra1
    case ya1 => intro w hSw; clear hSw; go_simp; with_reducible rfl
    simp only [Act.put, List.setIfInBounds_toArray, List.set_cons_zero, List.set_cons_succ]
    refine wpAnyH_take (i := 1) (v := ?va2) (by simp; rfl) (by kernel_rfl) (by kernel_rfl) (by kernel_rfl) (fun _ _ _ h => h) (Or.inl ⟨by rfl, ?ya2⟩) hHeld ?ra2
    case ya2 => intro w hSw; clear hSw; go_simp; with_reducible rfl
    simp only [Act.put, List.setIfInBounds_toArray, List.set_cons_zero, List.set_cons_succ]
    refine wpAnyH_take (i := 2) (v := ?va3) (by simp; rfl) (by kernel_rfl) (by kernel_rfl) (by kernel_rfl) (fun _ _ _ h => h) (Or.inl ⟨by rfl, ?ya3⟩) hHeld ?ra3
    case ya3 => intro w hSw; clear hSw; go_simp; with_reducible rfl
    simp only [Act.put, List.setIfInBounds_toArray, List.set_cons_zero, List.set_cons_succ]
    refine wpAnyH_take (i := 3) (v := ?va4) (by simp; rfl) (by kernel_rfl) (by kernel_rfl) (by kernel_rfl) (fun _ _ _ h => h) (Or.inl ⟨by rfl, ?ya4⟩) hHeld ?ra4
    case ya4 => intro w hSw; clear hSw; go_simp; with_reducible rfl
    simp only [Act.put, List.setIfInBounds_toArray, List.set_cons_zero, List.set_cons_succ]
    refine wpAnyH_take (i := 4) (v := ?va5) (by simp; rfl) (by kernel_rfl) (by kernel_rfl) (by kernel_rfl) (fun _ _ _ h => h) (Or.inl ⟨by rfl, ?ya5⟩) hHeld ?ra5
    case ya5 => intro w hSw; clear hSw; go_simp; with_reducible rfl
    simp only [Act.put, List.setIfInBounds_toArray, List.set_cons_zero, List.set_cons_succ]
    refine wpAnyH_take (i := 5) (v := ?va6) (by simp; rfl) (by kernel_rfl) (by kernel_rfl) (by kernel_rfl) (fun _ _ _ h => h) (Or.inl ⟨by rfl, ?ya6⟩) hHeld ?ra6
    case ya6 => intro w hSw; clear hSw; go_simp; with_reducible rfl
    simp only [Act.put, List.setIfInBounds_toArray, List.set_cons_zero, List.set_cons_succ]
    refine wpAnyH_take (i := 6) (v := ?va7) (by simp; rfl) (by kernel_rfl) (by kernel_rfl) (by kernel_rfl) (fun _ _ _ h => h) (Or.inl ⟨by rfl, ?ya7⟩) hHeld ?ra7
    case ya7 => intro w hSw; clear hSw; go_simp; with_reducible rfl
    simp only [Act.put, List.setIfInBounds_toArray, List.set_cons_zero, List.set_cons_succ]
    refine wpAnyH_take (i := 7) (v := ?va8) (by simp; rfl) (by kernel_rfl) (by kernel_rfl) (by kernel_rfl) (fun _ _ _ h => h) (Or.inl ⟨by rfl, ?ya8⟩) hHeld ?ra8
    case ya8 => intro w hSw; clear hSw; go_simp; with_reducible rfl
    simp only [Act.put, List.setIfInBounds_toArray, List.set_cons_zero, List.set_cons_succ]
    refine wpAnyH_take (i := 8) (v := ?va9) (by simp; rfl) (by kernel_rfl) (by kernel_rfl) (by kernel_rfl) (fun _ _ _ h => h) (Or.inl ⟨by rfl, ?ya9⟩) hHeld ?ra9
    case ya9 => intro w hSw; clear hSw; go_simp; with_reducible rfl
    simp only [Act.put, List.setIfInBounds_toArray, List.set_cons_zero, List.set_cons_succ]
    refine wpAnyH_take (i := 9) (v := ?va10) (by simp; rfl) (by kernel_rfl) (by kernel_rfl) (by kernel_rfl) (fun _ _ _ h => h) (Or.inl ⟨by rfl, ?ya10⟩) hHeld ?ra10
    case ya10 => intro w hSw; clear hSw; go_simp; with_reducible rfl
    simp only [Act.put, List.setIfInBounds_toArray, List.set_cons_zero, List.set_cons_succ]
    refine wpAnyH_take (i := 10) (v := ?va11) (by simp; rfl) (by kernel_rfl) (by kernel_rfl) (by kernel_rfl) (fun _ _ _ h => h) (Or.inl ⟨by rfl, ?ya11⟩) hHeld ?ra11
    case ya11 => intro w hSw; clear hSw; go_simp; with_reducible rfl
    simp only [Act.put, List.setIfInBounds_toArray, List.set_cons_zero, List.set_cons_succ]
    refine wpAnyH_take (i := 11) (v := ?va12) (by simp; rfl) (by kernel_rfl) (by kernel_rfl) (by kernel_rfl) (fun _ _ _ h => h) (Or.inl ⟨by rfl, ?ya12⟩) hHeld ?ra12
    case ya12 => intro w hSw; have z := HAt.c1 (HC.out _ hSw); clear hSw; go_simp; with_reducible rfl
    simp only [Act.put, List.setIfInBounds_toArray, List.set_cons_zero, List.set_cons_succ]
    refine wpAnyH_take (i := 12) (v := ?va13) (by simp; rfl) (by kernel_rfl) (by kernel_rfl) (by kernel_rfl) (fun _ _ _ h => h) (Or.inl ⟨by rfl, ?ya13⟩) hHeld ?ra13
    case ya13 => intro w hSw; clear hSw; go_simp; with_reducible rfl
    simp only [Act.put, List.setIfInBounds_toArray, List.set_cons_zero, List.set_cons_succ]
    refine wpAnyH_take (i := 13) (v := ?va14) (by simp; rfl) (by kernel_rfl) (by kernel_rfl) (by kernel_rfl) (fun _ _ _ h => h) (Or.inl ⟨by rfl, ?ya14⟩) hHeld ?ra14
    case ya14 => intro w hSw; clear hSw; go_simp; with_reducible rfl
    simp only [Act.put, List.setIfInBounds_toArray, List.set_cons_zero, List.set_cons_succ]
    refine wpAnyH_take (i := 14) (v := ?va15) (by simp; rfl) (by kernel_rfl) (by kernel_rfl) (by kernel_rfl) (fun _ _ _ h => h) (Or.inl ⟨by rfl, ?ya15⟩) hHeld ?ra15
    case ya15 => intro w hSw; clear hSw; go_simp; with_reducible rfl
    simp only [Act.put, List.setIfInBounds_toArray, List.set_cons_zero, List.set_cons_succ]
    refine wpAnyH_take (i := 15) (v := ?va16) (by simp; rfl) (by kernel_rfl) (by kernel_rfl) (by kernel_rfl) (fun _ _ _ h => h) (Or.inl ⟨by rfl, ?ya16⟩) hHeld ?ra16
    case ya16 => intro w hSw; clear hSw; go_simp; with_reducible rfl
    simp only [Act.put, List.setIfInBounds_toArray, List.set_cons_zero, List.set_cons_succ]
    refine wpAnyH_take (i := 16) (v := ?va17) (by simp; rfl) (by kernel_rfl) (by kernel_rfl) (by kernel_rfl) (fun _ _ _ h => h) (Or.inl ⟨by rfl, ?ya17⟩) hHeld ?ra17
    case ya17 => intro w hSw; clear hSw; go_simp; with_reducible rfl
    simp only [Act.put, List.setIfInBounds_toArray, List.set_cons_zero, List.set_cons_succ]
    refine wpAnyH_take (i := 17) (v := ?va18) (by simp; rfl) (by kernel_rfl) (by kernel_rfl) (by kernel_rfl) (fun _ _ _ h => h) (Or.inl ⟨by rfl, ?ya18⟩) hHeld ?ra18
    case ya18 => intro w hSw; clear hSw; go_simp; with_reducible rfl
    simp only [Act.put, List.setIfInBounds_toArray, List.set_cons_zero, List.set_cons_succ]
    refine wpAnyH_take (i := 18) (v := ?va19) (by simp; rfl) (by kernel_rfl) (by kernel_rfl) (by kernel_rfl) (fun _ _ _ h => h) (Or.inl ⟨by rfl, ?ya19⟩) hHeld ?ra19
    case ya19 => intro w hSw; have z := HAt.c10 (HC.out _ hSw); clear hSw; go_simp; with_reducible rfl
    simp only [Act.put, List.setIfInBounds_toArray, List.set_cons_zero, List.set_cons_succ]
    refine wpAnyH_take (i := 19) (v := ?va20) (by simp; rfl) (by kernel_rfl) (by kernel_rfl) (by kernel_rfl) (fun _ _ _ h => h) (Or.inl ⟨by rfl, ?ya20⟩) hHeld ?ra20
    case ya20 => intro w hSw; clear hSw; go_simp; with_reducible rfl
    simp only [Act.put, List.setIfInBounds_toArray, List.set_cons_zero, List.set_cons_succ]
    refine wpAnyH_take (i := 20) (v := ?va21) (by simp; rfl) (by kernel_rfl) (by kernel_rfl) (by kernel_rfl) (fun _ _ _ h => h) (Or.inl ⟨by rfl, ?ya21⟩) hHeld ?ra21
    case ya21 => intro w hSw; clear hSw; go_simp; with_reducible rfl
    simp only [Act.put, List.setIfInBounds_toArray, List.set_cons_zero, List.set_cons_succ]
    refine wpAnyH_take (i := 21) (v := ?va22) (by simp; rfl) (by kernel_rfl) (by kernel_rfl) (by kernel_rfl) (fun _ _ _ h => h) (Or.inl ⟨by rfl, ?ya22⟩) hHeld ?ra22
    case ya22 => intro w hSw; clear hSw; go_simp; with_reducible rfl
    simp only [Act.put, List.setIfInBounds_toArray, List.set_cons_zero, List.set_cons_succ]
    refine wpAnyH_take (i := 22) (v := ?va23) (by simp; rfl) (by kernel_rfl) (by kernel_rfl) (by kernel_rfl) (fun _ _ _ h => h) (Or.inl ⟨by rfl, ?ya23⟩) hHeld ?ra23
    case ya23 => intro w hSw; clear hSw; go_simp; with_reducible rfl
    simp only [Act.put, List.setIfInBounds_toArray, List.set_cons_zero, List.set_cons_succ]
    refine wpAnyH_take (i := 23) (v := ?va24) (by simp; rfl) (by kernel_rfl) (by kernel_rfl) (by kernel_rfl) (fun _ _ _ h => h) (Or.inl ⟨by rfl, ?ya24⟩) hHeld ?ra24
    case ya24 => intro w hSw; have z := HAt.c3 (HC.out _ hSw); clear hSw; go_simp; with_reducible rfl
    simp only [Act.put, List.setIfInBounds_toArray, List.set_cons_zero, List.set_cons_succ]
    refine wpAnyH_take (i := 24) (v := ?va25) (by simp; rfl) (by kernel_rfl) (by kernel_rfl) (by kernel_rfl) (fun _ _ _ h => h) (Or.inl ⟨by rfl, ?ya25⟩) hHeld ?ra25
    case ya25 => intro w hSw; clear hSw; go_simp; with_reducible rfl
    simp only [Act.put, List.setIfInBounds_toArray, List.set_cons_zero, List.set_cons_succ]
    refine wpAnyH_take (i := 25) (v := ?va26) (by simp; rfl) (by kernel_rfl) (by kernel_rfl) (by kernel_rfl) (fun _ _ _ h => h) (Or.inl ⟨by rfl, ?ya26⟩) hHeld ?ra26
    case ya26 => intro w hSw; clear hSw; go_simp; with_reducible rfl
    simp only [Act.put, List.setIfInBounds_toArray, List.set_cons_zero, List.set_cons_succ]
    refine wpAnyH_take (i := 26) (v := ?va27) (by simp; rfl) (by kernel_rfl) (by kernel_rfl) (by kernel_rfl) (fun _ _ _ h => h) (Or.inl ⟨by rfl, ?ya27⟩) hHeld ?ra27
    case ya27 => intro w hSw; clear hSw; go_simp; with_reducible rfl
    simp only [Act.put, List.setIfInBounds_toArray, List.set_cons_zero, List.set_cons_succ]
    refine wpAnyH_take (i := 27) (v := ?va28) (by simp; rfl) (by kernel_rfl) (by kernel_rfl) (by kernel_rfl) (fun _ _ _ h => h) (Or.inl ⟨by rfl, ?ya28⟩) hHeld ?ra28
    case ya28 => intro w hSw; clear hSw; go_simp; with_reducible rfl
    simp only [Act.put, List.setIfInBounds_toArray, List.set_cons_zero, List.set_cons_succ]
    refine wpAnyH_take (i := 28) (v := ?va29) (by simp; rfl) (by kernel_rfl) (by kernel_rfl) (by kernel_rfl) (fun _ _ _ h => h) (Or.inl ⟨by rfl, ?ya29⟩) hHeld ?ra29
    case ya29 => intro w hSw; clear hSw; go_simp; with_reducible rfl
    simp only [Act.put, List.setIfInBounds_toArray, List.set_cons_zero, List.set_cons_succ]
    refine wpAnyH_take (i := 29) (v := ?va30) (by simp; rfl) (by kernel_rfl) (by kernel_rfl) (by kernel_rfl) (fun _ _ _ h => h) (Or.inl ⟨by rfl, ?ya30⟩) hHeld ?ra30
    case ya30 => intro w hSw; clear hSw; go_simp; with_reducible rfl
    simp only [Act.put, List.setIfInBounds_toArray, List.set_cons_zero, List.set_cons_succ]
    refine wpAnyH_take (i := 30) (v := ?va31) (by simp; rfl) (by kernel_rfl) (by kernel_rfl) (by kernel_rfl) (fun _ _ _ h => h) (Or.inl ⟨by rfl, ?ya31⟩) hHeld ?ra31
    case ya31 => intro w hSw; have z := HAt.c10 (HC.out _ hSw); clear hSw; go_simp; with_reducible rfl
    simp only [Act.put, List.setIfInBounds_toArray, List.set_cons_zero, List.set_cons_succ]
    refine wpAnyH_take (i := 31) (v := ?va32) (by simp; rfl) (by kernel_rfl) (by kernel_rfl) (by kernel_rfl) (fun _ _ _ h => h) (Or.inl ⟨by rfl, ?ya32⟩) hHeld ?ra32
    case ya32 => intro w hSw; clear hSw; go_simp; with_reducible rfl
    simp only [Act.put, List.setIfInBounds_toArray, List.set_cons_zero, List.set_cons_succ]
    refine wpAnyH_take (i := 32) (v := ?va33) (by simp; rfl) (by kernel_rfl) (by kernel_rfl) (by kernel_rfl) (fun _ _ _ h => h) (Or.inl ⟨by rfl, ?ya33⟩) hHeld ?ra33
    case ya33 => intro w hSw; clear hSw; go_simp; with_reducible rfl
    simp only [Act.put, List.setIfInBounds_toArray, List.set_cons_zero, List.set_cons_succ]
    refine wpAnyH_take (i := 33) (v := ?va34) (by simp; rfl) (by kernel_rfl) (by kernel_rfl) (by kernel_rfl) (fun _ _ _ h => h) (Or.inl ⟨by rfl, ?ya34⟩) hHeld ?ra34
    case ya34 => intro w hSw; clear hSw; go_simp; with_reducible rfl
    simp only [Act.put, List.setIfInBounds_toArray, List.set_cons_zero, List.set_cons_succ]
    refine wpAnyH_take (i := 34) (v := ?va35) (by simp; rfl) (by kernel_rfl) (by kernel_rfl) (by kernel_rfl) (fun _ _ _ h => h) (Or.inl ⟨by rfl, ?ya35⟩) hHeld ?ra35
    case ya35 => intro w hSw; clear hSw; go_simp; with_reducible rfl
    simp only [Act.put, List.setIfInBounds_toArray, List.set_cons_zero, List.set_cons_succ]
    refine wpAnyH_take (i := 35) (v := ?va36) (by simp; rfl) (by kernel_rfl) (by kernel_rfl) (by kernel_rfl) (fun _ _ _ h => h) (Or.inl ⟨by rfl, ?ya36⟩) hHeld ?ra36
    case ya36 => intro w hSw; clear hSw; go_simp; with_reducible rfl
    simp only [Act.put, List.setIfInBounds_toArray, List.set_cons_zero, List.set_cons_succ]
    refine wpAnyH_take (i := 36) (v := ?va37) (by simp; rfl) (by kernel_rfl) (by kernel_rfl) (by kernel_rfl) (fun _ _ _ h => h) (Or.inl ⟨by rfl, ?ya37⟩) hHeld ?ra37
    case ya37 => intro w hSw; clear hSw; go_simp; with_reducible rfl
    simp only [Act.put, List.setIfInBounds_toArray, List.set_cons_zero, List.set_cons_succ]
    refine wpAnyH_take (i := 37) (v := ?va38) (by simp; rfl) (by kernel_rfl) (by kernel_rfl) (by kernel_rfl) (fun _ _ _ h => h) (Or.inl ⟨by rfl, ?ya38⟩) hHeld ?ra38
    case ya38 => intro w hSw; have z := HAt.c11 (HC.out _ hSw); clear hSw; go_simp; with_reducible rfl
    simp only [Act.put, List.setIfInBounds_toArray, List.set_cons_zero, List.set_cons_succ]
    refine wpAnyH_take (i := 38) (v := ?va39) (by simp; rfl) (by kernel_rfl) (by kernel_rfl) (by kernel_rfl) (fun _ _ _ h => h) (Or.inl ⟨by rfl, ?ya39⟩) hHeld ?ra39
    case ya39 => intro w hSw; clear hSw; go_simp; with_reducible rfl
    simp only [Act.put, List.setIfInBounds_toArray, List.set_cons_zero, List.set_cons_succ]
    refine wpAnyH_take (i := 39) (v := ?va40) (by simp; rfl) (by kernel_rfl) (by kernel_rfl) (by kernel_rfl) (fun _ _ _ h => h) (Or.inl ⟨by rfl, ?ya40⟩) hHeld ?ra40
    case ya40 => intro w hSw; clear hSw; go_simp; with_reducible rfl
    simp only [Act.put, List.setIfInBounds_toArray, List.set_cons_zero, List.set_cons_succ]
    refine wpAnyH_take (i := 40) (v := ?va41) (by simp; rfl) (by kernel_rfl) (by kernel_rfl) (by kernel_rfl) (fun _ _ _ h => h) (Or.inl ⟨by rfl, ?ya41⟩) hHeld ?ra41
    case ya41 => intro w hSw; clear hSw; go_simp; with_reducible rfl
    simp only [Act.put, List.setIfInBounds_toArray, List.set_cons_zero, List.set_cons_succ]
    refine wpAnyH_take (i := 41) (v := ?va42) (by simp; rfl) (by kernel_rfl) (by kernel_rfl) (by kernel_rfl) (fun _ _ _ h => h) (Or.inl ⟨by rfl, ?ya42⟩) hHeld ?ra42
    case ya42 => intro w hSw; clear hSw; go_simp; with_reducible rfl
    simp only [Act.put, List.setIfInBounds_toArray, List.set_cons_zero, List.set_cons_succ]
    clear hHeld
    refine wpAnyH_done (by kernel_rfl) (NoPanic.normal ?_) _
    have HG2 : Hid (RL wd S L p d ws g bo) := HG1.out.later D1.out
    have HB2 : Hid (Below w.heap.size w wd) := below_then HB1.out D1.out
    have V2 : Hid (LAt 49 wd w.heap.size (U8 v)) := LAt.later V1.out D1.out
    have c10 := HAt.c10 HG2.out.log
    have cf10 := HAt.free HG2.out.log 10
    have c11 := HAt.c11 HG2.out.log
    have cf11 := HAt.free HG2.out.log 11
    have k1 : IntKind.i64.wrap (g.imgs + 1) = g.imgs + 1 := by rw [IntKind.wrap_i64]; omega
    have HN : Hid ((midG g b).Ok) := midG_ok HG.out.ok HI.out
    have hLv : L ≠ w.heap.size := by have := LAt.lt HG.out.log; omega
    have HG3 : Hid (RL ((wd.setCell ⟨L, 10, none⟩ (.int .i64 (g.imgs + 1))).setCell ⟨L, 11, none⟩ (.int .i64 b)) S L p d ws (midG g b) b) := by
      have a1 := HAt.setI HG2.out.log (g.imgs + 1)
      have a2 := HAt.setB a1 b
      refine ⟨a2, ?_, HG.out.sl, HN.out, fun _ => rfl⟩
      show Ref _ _ p g.sz d _
      refine (HG2.out.dsk.kept (kept_set wd L 10 _) ?_).kept (kept_set _ L 11 _) ?_
      · rintro k h rfl
        exact h.2 rfl
      · rintro k h rfl
        exact h.2 rfl
    have K3 : Hid (Kept S w ((wd.setCell ⟨L, 10, none⟩ (.int .i64 (g.imgs + 1))).setCell ⟨L, 11, none⟩ (.int .i64 b))) := ((Kept.of_below (S := S) HB2.out).setCell (p := ⟨L, 10, none⟩) (fun _ => HG.out.sl) _).setCell (p := ⟨L, 11, none⟩) (fun _ => HG.out.sl) _
    have V3 : Hid (LAt 49 ((wd.setCell ⟨L, 10, none⟩ (.int .i64 (g.imgs + 1))).setCell ⟨L, 11, none⟩ (.int .i64 b)) w.heap.size (U8 v)) := by
      have hlt := LAt.lt V2.out
      exact (((kept_set (wd.setCell ⟨L, 10, none⟩ (.int .i64 (g.imgs + 1))) L 11 (.int .i64 b)).block w.heap.size (by simp [World.setCell]; exact hlt) (fun e => hLv e.symm)).trans ((kept_set wd L 10 (.int .i64 (g.imgs + 1))).block w.heap.size hlt (fun e => hLv e.symm))).trans V2.out
    have L2 : Hid (_) := loadV V3.out HV.out.1
    have U2 : Hid (_) := rbuild_img ((wd.setCell ⟨L, 10, none⟩ (.int .i64 (g.imgs + 1))).setCell ⟨L, 11, none⟩ (.int .i64 b)) b v HV.out.1
    clear HG1 HB1 V1 HC V2
    go_wp2_with ((with_reducible refine at_ops ?_); (first | (refine wpList_load_is (by rfl) 49 rfl rfl L2.out ?_) | (refine wpList_build_is (vs := [(0, .int .i64 1), (2, .int .i64 b), (3, .agg (U8 v).toArray)]) (by rfl) 87 rfl (by rfl) U2.out ?_)); simp only [Act.put, List.setIfInBounds_toArray, List.set_cons_zero, List.set_cons_succ])
    refine (rlay_good HG3.out hk ⟨1, 0, b, v, 0⟩ HV.out.1 (imgR_wf HG.out.ok HMB.out.2 HV.out.1 HV.out.2) (imgR_may HG.out.ok HMB.out.2) (by have := (moreS_zero HMB.out.1).1; have := HG.out.ok.fM; show g.fin < _; omega)).mono ?_
    rintro e w3 ⟨rfl, d3, g3, k3⟩
    have Y3 : Hid (Ref w3 (More (fun k => S k ∧ k ≠ L) ((wd.setCell ⟨L, 10, none⟩ (.int .i64 (g.imgs + 1))).setCell ⟨L, 11, none⟩ (.int .i64 b))) p g.sz d (ws ++ [⟨(secN g g.fin).toNat, R.encS (imgR g b v)⟩]) ∧ HAt w3 L (some ⟨p, 0, none⟩) (imgG g b) b ∧ Kept S ((wd.setCell ⟨L, 10, none⟩ (.int .i64 (g.imgs + 1))).setCell ⟨L, 11, none⟩ (.int .i64 b)) w3) := ⟨d3, g3, k3⟩
    clear d3 g3 k3 L2 U2
    go_wp2_with fail
    go_ret2
    have hs := HB2.out.size
    have hL := LAt.lt HG.out.log
    refine ⟨rfl, ⟨Y3.out.2.1, ?_, .inl HG.out.sl, imgG_ok HG.out.ok HI.out, fun _ => rfl⟩, K3.out.trans (T := S) Y3.out.2.2 (fun _ _ t => t)⟩
    show Ref _ _ p g.sz d _
    refine Y3.out.1.mono ?_
    rintro k _ (h | h)
    · exact ⟨.inl h.1, h.2⟩
    · have h' : wd.heap.size ≤ k := by simpa [World.setCell] using h
      exact ⟨.inr (by omega), by omega⟩
  · have hd5 : decide (0 < g.imgs) = false := by simp; omega
    go_wp2_with fail
    refine wp_region_noPanic ?_
    refine wp_region_held_drew (S := fun w' => Below w1.heap.size w1 w') (by kernel_rfl) (below_drawn 1) (fun hHeld => ?_)
    have D1 : Hid (Below w1.heap.size w1 w1.drew) := hHeld
    generalize w1.drew = wd at *
    refine wpAnyH_take (i := 0) (v := ?va43) (by simp; rfl) (by kernel_rfl) (by kernel_rfl) (by kernel_rfl) (fun _ _ _ h => h) (Or.inl ⟨by rfl, ?ya43⟩) hHeld ?ra43
    case ya43 => intro w hSw; clear hSw; go_simp; with_reducible rfl
    simp only [Act.put, List.setIfInBounds_toArray, List.set_cons_zero, List.set_cons_succ]
    refine wpAnyH_take (i := 1) (v := ?va44) (by simp; rfl) (by kernel_rfl) (by kernel_rfl) (by kernel_rfl) (fun _ _ _ h => h) (Or.inl ⟨by rfl, ?ya44⟩) hHeld ?ra44
    case ya44 => intro w hSw; clear hSw; go_simp; with_reducible rfl
    simp only [Act.put, List.setIfInBounds_toArray, List.set_cons_zero, List.set_cons_succ]
    refine wpAnyH_take (i := 2) (v := ?va45) (by simp; rfl) (by kernel_rfl) (by kernel_rfl) (by kernel_rfl) (fun _ _ _ h => h) (Or.inl ⟨by rfl, ?ya45⟩) hHeld ?ra45
    case ya45 => intro w hSw; clear hSw; go_simp; with_reducible rfl
    simp only [Act.put, List.setIfInBounds_toArray, List.set_cons_zero, List.set_cons_succ]
    refine wpAnyH_take (i := 3) (v := ?va46) (by simp; rfl) (by kernel_rfl) (by kernel_rfl) (by kernel_rfl) (fun _ _ _ h => h) (Or.inl ⟨by rfl, ?ya46⟩) hHeld ?ra46
    case ya46 => intro w hSw; clear hSw; go_simp; with_reducible rfl
    simp only [Act.put, List.setIfInBounds_toArray, List.set_cons_zero, List.set_cons_succ]
    refine wpAnyH_take (i := 4) (v := ?va47) (by simp; rfl) (by kernel_rfl) (by kernel_rfl) (by kernel_rfl) (fun _ _ _ h => h) (Or.inl ⟨by rfl, ?ya47⟩) hHeld ?ra47
    case ya47 => intro w hSw; clear hSw; go_simp; with_reducible rfl
    simp only [Act.put, List.setIfInBounds_toArray, List.set_cons_zero, List.set_cons_succ]
    refine wpAnyH_take (i := 5) (v := ?va48) (by simp; rfl) (by kernel_rfl) (by kernel_rfl) (by kernel_rfl) (fun _ _ _ h => h) (Or.inl ⟨by rfl, ?ya48⟩) hHeld ?ra48
    case ya48 => intro w hSw; clear hSw; go_simp; with_reducible rfl
    simp only [Act.put, List.setIfInBounds_toArray, List.set_cons_zero, List.set_cons_succ]
    refine wpAnyH_take (i := 6) (v := ?va49) (by simp; rfl) (by kernel_rfl) (by kernel_rfl) (by kernel_rfl) (fun _ _ _ h => h) (Or.inl ⟨by rfl, ?ya49⟩) hHeld ?ra49
    case ya49 => intro w hSw; clear hSw; go_simp; with_reducible rfl
    simp only [Act.put, List.setIfInBounds_toArray, List.set_cons_zero, List.set_cons_succ]
    refine wpAnyH_take (i := 7) (v := ?va50) (by simp; rfl) (by kernel_rfl) (by kernel_rfl) (by kernel_rfl) (fun _ _ _ h => h) (Or.inl ⟨by rfl, ?ya50⟩) hHeld ?ra50
    case ya50 => intro w hSw; clear hSw; go_simp; with_reducible rfl
    simp only [Act.put, List.setIfInBounds_toArray, List.set_cons_zero, List.set_cons_succ]
    refine wpAnyH_take (i := 8) (v := ?va51) (by simp; rfl) (by kernel_rfl) (by kernel_rfl) (by kernel_rfl) (fun _ _ _ h => h) (Or.inl ⟨by rfl, ?ya51⟩) hHeld ?ra51
    case ya51 => intro w hSw; clear hSw; go_simp; with_reducible rfl
    simp only [Act.put, List.setIfInBounds_toArray, List.set_cons_zero, List.set_cons_succ]
    refine wpAnyH_take (i := 9) (v := ?va52) (by simp; rfl) (by kernel_rfl) (by kernel_rfl) (by kernel_rfl) (fun _ _ _ h => h) (Or.inl ⟨by rfl, ?ya52⟩) hHeld ?ra52
    case ya52 => intro w hSw; clear hSw; go_simp; with_reducible rfl
    simp only [Act.put, List.setIfInBounds_toArray, List.set_cons_zero, List.set_cons_succ]
    refine wpAnyH_take (i := 10) (v := ?va53) (by simp; rfl) (by kernel_rfl) (by kernel_rfl) (by kernel_rfl) (fun _ _ _ h => h) (Or.inl ⟨by rfl, ?ya53⟩) hHeld ?ra53
    case ya53 => intro w hSw; clear hSw; go_simp; with_reducible rfl
    simp only [Act.put, List.setIfInBounds_toArray, List.set_cons_zero, List.set_cons_succ]
    refine wpAnyH_take (i := 11) (v := ?va54) (by simp; rfl) (by kernel_rfl) (by kernel_rfl) (by kernel_rfl) (fun _ _ _ h => h) (Or.inl ⟨by rfl, ?ya54⟩) hHeld ?ra54
    case ya54 => intro w hSw; have z := HAt.c1 (HC.out _ hSw); clear hSw; go_simp; with_reducible rfl
    simp only [Act.put, List.setIfInBounds_toArray, List.set_cons_zero, List.set_cons_succ]
    refine wpAnyH_take (i := 12) (v := ?va55) (by simp; rfl) (by kernel_rfl) (by kernel_rfl) (by kernel_rfl) (fun _ _ _ h => h) (Or.inl ⟨by rfl, ?ya55⟩) hHeld ?ra55
    case ya55 => intro w hSw; clear hSw; go_simp; with_reducible rfl
    simp only [Act.put, List.setIfInBounds_toArray, List.set_cons_zero, List.set_cons_succ]
    refine wpAnyH_take (i := 13) (v := ?va56) (by simp; rfl) (by kernel_rfl) (by kernel_rfl) (by kernel_rfl) (fun _ _ _ h => h) (Or.inl ⟨by rfl, ?ya56⟩) hHeld ?ra56
    case ya56 => intro w hSw; clear hSw; go_simp; with_reducible rfl
    simp only [Act.put, List.setIfInBounds_toArray, List.set_cons_zero, List.set_cons_succ]
    refine wpAnyH_take (i := 14) (v := ?va57) (by simp; rfl) (by kernel_rfl) (by kernel_rfl) (by kernel_rfl) (fun _ _ _ h => h) (Or.inl ⟨by rfl, ?ya57⟩) hHeld ?ra57
    case ya57 => intro w hSw; clear hSw; go_simp; with_reducible rfl
    simp only [Act.put, List.setIfInBounds_toArray, List.set_cons_zero, List.set_cons_succ]
    refine wpAnyH_take (i := 15) (v := ?va58) (by simp; rfl) (by kernel_rfl) (by kernel_rfl) (by kernel_rfl) (fun _ _ _ h => h) (Or.inl ⟨by rfl, ?ya58⟩) hHeld ?ra58
    case ya58 => intro w hSw; clear hSw; go_simp; with_reducible rfl
    simp only [Act.put, List.setIfInBounds_toArray, List.set_cons_zero, List.set_cons_succ]
    refine wpAnyH_take (i := 16) (v := ?va59) (by simp; rfl) (by kernel_rfl) (by kernel_rfl) (by kernel_rfl) (fun _ _ _ h => h) (Or.inl ⟨by rfl, ?ya59⟩) hHeld ?ra59
    case ya59 => intro w hSw; clear hSw; go_simp; with_reducible rfl
    simp only [Act.put, List.setIfInBounds_toArray, List.set_cons_zero, List.set_cons_succ]
    refine wpAnyH_take (i := 17) (v := ?va60) (by simp; rfl) (by kernel_rfl) (by kernel_rfl) (by kernel_rfl) (fun _ _ _ h => h) (Or.inl ⟨by rfl, ?ya60⟩) hHeld ?ra60
    case ya60 => intro w hSw; clear hSw; go_simp; with_reducible rfl
    simp only [Act.put, List.setIfInBounds_toArray, List.set_cons_zero, List.set_cons_succ]
    refine wpAnyH_take (i := 18) (v := ?va61) (by simp; rfl) (by kernel_rfl) (by kernel_rfl) (by kernel_rfl) (fun _ _ _ h => h) (Or.inl ⟨by rfl, ?ya61⟩) hHeld ?ra61
    case ya61 => intro w hSw; have z := HAt.c10 (HC.out _ hSw); clear hSw; go_simp; with_reducible rfl
    simp only [Act.put, List.setIfInBounds_toArray, List.set_cons_zero, List.set_cons_succ]
    refine wpAnyH_take (i := 19) (v := ?va62) (by simp; rfl) (by kernel_rfl) (by kernel_rfl) (by kernel_rfl) (fun _ _ _ h => h) (Or.inl ⟨by rfl, ?ya62⟩) hHeld ?ra62
    case ya62 => intro w hSw; clear hSw; go_simp; with_reducible rfl
    simp only [Act.put, List.setIfInBounds_toArray, List.set_cons_zero, List.set_cons_succ]
    refine wpAnyH_take (i := 20) (v := ?va63) (by simp; rfl) (by kernel_rfl) (by kernel_rfl) (by kernel_rfl) (fun _ _ _ h => h) (Or.inl ⟨by rfl, ?ya63⟩) hHeld ?ra63
    case ya63 => intro w hSw; clear hSw; go_simp; with_reducible rfl
    simp only [Act.put, List.setIfInBounds_toArray, List.set_cons_zero, List.set_cons_succ]
    refine wpAnyH_take (i := 21) (v := ?va64) (by simp; rfl) (by kernel_rfl) (by kernel_rfl) (by kernel_rfl) (fun _ _ _ h => h) (Or.inl ⟨by rfl, ?ya64⟩) hHeld ?ra64
    case ya64 => intro w hSw; clear hSw; go_simp; with_reducible rfl
    simp only [Act.put, List.setIfInBounds_toArray, List.set_cons_zero, List.set_cons_succ]
    refine wpAnyH_take (i := 22) (v := ?va65) (by simp; rfl) (by kernel_rfl) (by kernel_rfl) (by kernel_rfl) (fun _ _ _ h => h) (Or.inl ⟨by rfl, ?ya65⟩) hHeld ?ra65
    case ya65 => intro w hSw; clear hSw; go_simp; with_reducible rfl
    simp only [Act.put, List.setIfInBounds_toArray, List.set_cons_zero, List.set_cons_succ]
    refine wpAnyH_take (i := 23) (v := ?va66) (by simp; rfl) (by kernel_rfl) (by kernel_rfl) (by kernel_rfl) (fun _ _ _ h => h) (Or.inl ⟨by rfl, ?ya66⟩) hHeld ?ra66
    case ya66 => intro w hSw; have z := HAt.c3 (HC.out _ hSw); clear hSw; go_simp; with_reducible rfl
    simp only [Act.put, List.setIfInBounds_toArray, List.set_cons_zero, List.set_cons_succ]
    refine wpAnyH_take (i := 24) (v := ?va67) (by simp; rfl) (by kernel_rfl) (by kernel_rfl) (by kernel_rfl) (fun _ _ _ h => h) (Or.inl ⟨by rfl, ?ya67⟩) hHeld ?ra67
    case ya67 => intro w hSw; clear hSw; go_simp; with_reducible rfl
    simp only [Act.put, List.setIfInBounds_toArray, List.set_cons_zero, List.set_cons_succ]
    refine wpAnyH_take (i := 25) (v := ?va68) (by simp; rfl) (by kernel_rfl) (by kernel_rfl) (by kernel_rfl) (fun _ _ _ h => h) (Or.inl ⟨by rfl, ?ya68⟩) hHeld ?ra68
    case ya68 => intro w hSw; clear hSw; go_simp; with_reducible rfl
    simp only [Act.put, List.setIfInBounds_toArray, List.set_cons_zero, List.set_cons_succ]
    refine wpAnyH_take (i := 26) (v := ?va69) (by simp; rfl) (by kernel_rfl) (by kernel_rfl) (by kernel_rfl) (fun _ _ _ h => h) (Or.inl ⟨by rfl, ?ya69⟩) hHeld ?ra69
    case ya69 => intro w hSw; clear hSw; go_simp; with_reducible rfl
    simp only [Act.put, List.setIfInBounds_toArray, List.set_cons_zero, List.set_cons_succ]
    refine wpAnyH_take (i := 27) (v := ?va70) (by simp; rfl) (by kernel_rfl) (by kernel_rfl) (by kernel_rfl) (fun _ _ _ h => h) (Or.inl ⟨by rfl, ?ya70⟩) hHeld ?ra70
    case ya70 => intro w hSw; clear hSw; go_simp; with_reducible rfl
    simp only [Act.put, List.setIfInBounds_toArray, List.set_cons_zero, List.set_cons_succ]
    refine wpAnyH_take (i := 28) (v := ?va71) (by simp; rfl) (by kernel_rfl) (by kernel_rfl) (by kernel_rfl) (fun _ _ _ h => h) (Or.inl ⟨by rfl, ?ya71⟩) hHeld ?ra71
    case ya71 => intro w hSw; clear hSw; go_simp; with_reducible rfl
    simp only [Act.put, List.setIfInBounds_toArray, List.set_cons_zero, List.set_cons_succ]
    refine wpAnyH_take (i := 29) (v := ?va72) (by simp; rfl) (by kernel_rfl) (by kernel_rfl) (by kernel_rfl) (fun _ _ _ h => h) (Or.inl ⟨by rfl, ?ya72⟩) hHeld ?ra72
    case ya72 => intro w hSw; clear hSw; go_simp; with_reducible rfl
    simp only [Act.put, List.setIfInBounds_toArray, List.set_cons_zero, List.set_cons_succ]
    refine wpAnyH_take (i := 30) (v := ?va73) (by simp; rfl) (by kernel_rfl) (by kernel_rfl) (by kernel_rfl) (fun _ _ _ h => h) (Or.inl ⟨by rfl, ?ya73⟩) hHeld ?ra73
    case ya73 => intro w hSw; have z := HAt.c10 (HC.out _ hSw); clear hSw; go_simp; with_reducible rfl
    simp only [Act.put, List.setIfInBounds_toArray, List.set_cons_zero, List.set_cons_succ]
    refine wpAnyH_take (i := 31) (v := ?va74) (by simp; rfl) (by kernel_rfl) (by kernel_rfl) (by kernel_rfl) (fun _ _ _ h => h) (Or.inl ⟨by rfl, ?ya74⟩) hHeld ?ra74
    case ya74 => intro w hSw; clear hSw; go_simp; with_reducible rfl
    simp only [Act.put, List.setIfInBounds_toArray, List.set_cons_zero, List.set_cons_succ]
    refine wpAnyH_take (i := 32) (v := ?va75) (by simp; rfl) (by kernel_rfl) (by kernel_rfl) (by kernel_rfl) (fun _ _ _ h => h) (Or.inl ⟨by rfl, ?ya75⟩) hHeld ?ra75
    case ya75 => intro w hSw; clear hSw; go_simp; with_reducible rfl
    simp only [Act.put, List.setIfInBounds_toArray, List.set_cons_zero, List.set_cons_succ]
    refine wpAnyH_take (i := 33) (v := undef) (by simp; rfl) (by kernel_rfl) (by kernel_rfl) (by kernel_rfl) (fun _ _ _ h => h) (Or.inr ⟨by rfl, rfl⟩) hHeld ?_
    simp only [Act.put, List.setIfInBounds_toArray, List.set_cons_zero, List.set_cons_succ]
    refine wpAnyH_take (i := 34) (v := undef) (by simp; rfl) (by kernel_rfl) (by kernel_rfl) (by kernel_rfl) (fun _ _ _ h => h) (Or.inr ⟨by rfl, rfl⟩) hHeld ?_
    simp only [Act.put, List.setIfInBounds_toArray, List.set_cons_zero, List.set_cons_succ]
    refine wpAnyH_take (i := 35) (v := undef) (by simp; rfl) (by kernel_rfl) (by kernel_rfl) (by kernel_rfl) (fun _ _ _ h => h) (Or.inr ⟨by rfl, rfl⟩) hHeld ?_
    simp only [Act.put, List.setIfInBounds_toArray, List.set_cons_zero, List.set_cons_succ]
    refine wpAnyH_take (i := 36) (v := undef) (by simp; rfl) (by kernel_rfl) (by kernel_rfl) (by kernel_rfl) (fun _ _ _ h => h) (Or.inr ⟨by rfl, rfl⟩) hHeld ?_
    simp only [Act.put, List.setIfInBounds_toArray, List.set_cons_zero, List.set_cons_succ]
    refine wpAnyH_take (i := 37) (v := undef) (by simp; rfl) (by kernel_rfl) (by kernel_rfl) (by kernel_rfl) (fun _ _ _ h => h) (Or.inr ⟨by rfl, rfl⟩) hHeld ?_
    simp only [Act.put, List.setIfInBounds_toArray, List.set_cons_zero, List.set_cons_succ]
    refine wpAnyH_take (i := 38) (v := undef) (by simp; rfl) (by kernel_rfl) (by kernel_rfl) (by kernel_rfl) (fun _ _ _ h => h) (Or.inr ⟨by rfl, rfl⟩) hHeld ?_
    simp only [Act.put, List.setIfInBounds_toArray, List.set_cons_zero, List.set_cons_succ]
    refine wpAnyH_take (i := 39) (v := ?va76) (by simp; rfl) (by kernel_rfl) (by kernel_rfl) (by kernel_rfl) (fun _ _ _ h => h) (Or.inl ⟨by rfl, ?ya76⟩) hHeld ?ra76
    case ya76 => intro w hSw; clear hSw; go_simp; with_reducible rfl
    simp only [Act.put, List.setIfInBounds_toArray, List.set_cons_zero, List.set_cons_succ]
    refine wpAnyH_take (i := 40) (v := ?va77) (by simp; rfl) (by kernel_rfl) (by kernel_rfl) (by kernel_rfl) (fun _ _ _ h => h) (Or.inl ⟨by rfl, ?ya77⟩) hHeld ?ra77
    case ya77 => intro w hSw; clear hSw; go_simp; with_reducible rfl
    simp only [Act.put, List.setIfInBounds_toArray, List.set_cons_zero, List.set_cons_succ]
    refine wpAnyH_take (i := 41) (v := ?va78) (by simp; rfl) (by kernel_rfl) (by kernel_rfl) (by kernel_rfl) (fun _ _ _ h => h) (Or.inl ⟨by rfl, ?ya78⟩) hHeld ?ra78
    case ya78 => intro w hSw; clear hSw; go_simp; with_reducible rfl
    simp only [Act.put, List.setIfInBounds_toArray, List.set_cons_zero, List.set_cons_succ]
    clear hHeld
    refine wpAnyH_done (by kernel_rfl) (NoPanic.normal ?_) _
    have HG2 : Hid (RL wd S L p d ws g bo) := HG1.out.later D1.out
    have HB2 : Hid (Below w.heap.size w wd) := below_then HB1.out D1.out
    have V2 : Hid (LAt 49 wd w.heap.size (U8 v)) := LAt.later V1.out D1.out
    have c10 := HAt.c10 HG2.out.log
    have cf10 := HAt.free HG2.out.log 10
    have c11 := HAt.c11 HG2.out.log
    have cf11 := HAt.free HG2.out.log 11
    have k1 : IntKind.i64.wrap (g.imgs + 1) = g.imgs + 1 := by rw [IntKind.wrap_i64]; omega
    have HN : Hid ((midG g b).Ok) := midG_ok HG.out.ok HI.out
    have hLv : L ≠ w.heap.size := by have := LAt.lt HG.out.log; omega
    have HG3 : Hid (RL ((wd.setCell ⟨L, 10, none⟩ (.int .i64 (g.imgs + 1))).setCell ⟨L, 11, none⟩ (.int .i64 b)) S L p d ws (midG g b) b) := by
      have a1 := HAt.setI HG2.out.log (g.imgs + 1)
      have a2 := HAt.setB a1 b
      refine ⟨a2, ?_, HG.out.sl, HN.out, fun _ => rfl⟩
      show Ref _ _ p g.sz d _
      refine (HG2.out.dsk.kept (kept_set wd L 10 _) ?_).kept (kept_set _ L 11 _) ?_
      · rintro k h rfl
        exact h.2 rfl
      · rintro k h rfl
        exact h.2 rfl
    have K3 : Hid (Kept S w ((wd.setCell ⟨L, 10, none⟩ (.int .i64 (g.imgs + 1))).setCell ⟨L, 11, none⟩ (.int .i64 b))) := ((Kept.of_below (S := S) HB2.out).setCell (p := ⟨L, 10, none⟩) (fun _ => HG.out.sl) _).setCell (p := ⟨L, 11, none⟩) (fun _ => HG.out.sl) _
    have V3 : Hid (LAt 49 ((wd.setCell ⟨L, 10, none⟩ (.int .i64 (g.imgs + 1))).setCell ⟨L, 11, none⟩ (.int .i64 b)) w.heap.size (U8 v)) := by
      have hlt := LAt.lt V2.out
      exact (((kept_set (wd.setCell ⟨L, 10, none⟩ (.int .i64 (g.imgs + 1))) L 11 (.int .i64 b)).block w.heap.size (by simp [World.setCell]; exact hlt) (fun e => hLv e.symm)).trans ((kept_set wd L 10 (.int .i64 (g.imgs + 1))).block w.heap.size hlt (fun e => hLv e.symm))).trans V2.out
    have L2 : Hid (_) := loadV V3.out HV.out.1
    have U2 : Hid (_) := rbuild_img ((wd.setCell ⟨L, 10, none⟩ (.int .i64 (g.imgs + 1))).setCell ⟨L, 11, none⟩ (.int .i64 b)) b v HV.out.1
    clear HG1 HB1 V1 HC V2
    go_wp2_with ((with_reducible refine at_ops ?_); (first | (refine wpList_load_is (by rfl) 49 rfl rfl L2.out ?_) | (refine wpList_build_is (vs := [(0, .int .i64 1), (2, .int .i64 b), (3, .agg (U8 v).toArray)]) (by rfl) 87 rfl (by rfl) U2.out ?_)); simp only [Act.put, List.setIfInBounds_toArray, List.set_cons_zero, List.set_cons_succ])
    refine (rlay_good HG3.out hk ⟨1, 0, b, v, 0⟩ HV.out.1 (imgR_wf HG.out.ok HMB.out.2 HV.out.1 HV.out.2) (imgR_may HG.out.ok HMB.out.2) (by have := (moreS_zero HMB.out.1).1; have := HG.out.ok.fM; show g.fin < _; omega)).mono ?_
    rintro e w3 ⟨rfl, d3, g3, k3⟩
    have Y3 : Hid (Ref w3 (More (fun k => S k ∧ k ≠ L) ((wd.setCell ⟨L, 10, none⟩ (.int .i64 (g.imgs + 1))).setCell ⟨L, 11, none⟩ (.int .i64 b))) p g.sz d (ws ++ [⟨(secN g g.fin).toNat, R.encS (imgR g b v)⟩]) ∧ HAt w3 L (some ⟨p, 0, none⟩) (imgG g b) b ∧ Kept S ((wd.setCell ⟨L, 10, none⟩ (.int .i64 (g.imgs + 1))).setCell ⟨L, 11, none⟩ (.int .i64 b)) w3) := ⟨d3, g3, k3⟩
    clear d3 g3 k3 L2 U2
    go_wp2_with fail
    go_ret2
    have hs := HB2.out.size
    have hL := LAt.lt HG.out.log
    refine ⟨rfl, ⟨Y3.out.2.1, ?_, .inl HG.out.sl, imgG_ok HG.out.ok HI.out, fun _ => rfl⟩, K3.out.trans (T := S) Y3.out.2.2 (fun _ _ t => t)⟩
    show Ref _ _ p g.sz d _
    refine Y3.out.1.mono ?_
    rintro k _ (h | h)
    · exact ⟨.inl h.1, h.2⟩
    · have h' : wd.heap.size ≤ k := by simpa [World.setCell] using h
      exact ⟨.inr (by omega), by omega⟩
end Go.Proofs.YtmcpjokbkkfgfaaGreatDoor
