/-
  Layer 9, the functions: Commit, Mark.
-/
import Derived.Test.YtmcpjokbkkfgfaaGreatDoorT13
import Derived.Test.YtmcpjokbkkfgfaaGreatDoorT01
namespace Go.Proofs.YtmcpjokbkkfgfaaGreatDoor
open Go.RowKit


set_option maxHeartbeats 1000000 in
set_option maxRecDepth 100000 in
theorem commit_nil (w : World) : Calls Tryz.prog 13 #[.pointer none] w fun e w' => e = .returned (.tuple #[.int .u64 0, .int .i64 1]) ∧ w = w' := by
  go_enter Tryz.func13, Tryz.ntmps13
  go_wp2_with fail
  refine (more_nil _).mono ?_
  rintro e w1 ⟨rfl, rfl⟩
  go_wp2_with fail
  go_ret2
  exact ⟨rfl, rfl⟩
set_option maxHeartbeats 1000000 in
set_option maxRecDepth 100000 in
theorem commit_none {w : World} {L : Nat} {g : Lg} (h : GAt w L none g) : Calls Tryz.prog 13 #[.pointer (some ⟨L, 0, none⟩)] w fun e w' => e = .returned (.tuple #[.int .u64 0, .int .i64 1]) ∧ w = w' := by
  go_enter Tryz.func13, Tryz.ntmps13
  go_wp2_with fail
  refine (more_none h).mono ?_
  rintro e w1 ⟨rfl, rfl⟩
  go_wp2_with fail
  go_ret2
  exact ⟨rfl, rfl⟩
set_option maxHeartbeats 1000000 in
set_option maxRecDepth 100000 in
theorem commit_no {w : World} {L p : Nat} {g : Lg} (h : GAt w L (some ⟨p, 0, none⟩) g) (ok : g.Ok) (hm : ¬ moreS g = 0) : Calls Tryz.prog 13 #[.pointer (some ⟨L, 0, none⟩)] w fun e w' => e = .returned (.tuple #[.int .u64 0, .int .i64 (moreS g)]) ∧ Below w.heap.size w w' := by
  go_enter Tryz.func13, Tryz.ntmps13
  go_wp2_with fail
  refine (more_at h ok).mono ?_
  rintro e w1 ⟨rfl, b1⟩
  have HB1 : Hid (Below w.heap.size w w1) := b1
  obtain ⟨q, hq0⟩ : ∃ q, q = moreS g := ⟨_, rfl⟩
  have HQ : Hid (q = moreS g) := hq0
  rw [← hq0] at hm ⊢
  have hq : (q != 0) = true := by simp [hm]
  clear hq0 b1 h ok
  go_wp2_with fail
  go_ret2
  exact ⟨by rw [← HQ.out]; rfl, HB1.out⟩
set_option maxHeartbeats 2000000 in
set_option maxRecDepth 100000 in
theorem commit_ok {w : World} {S : Nat → Prop} {L p : Nat} {d : List Int} {ws : List Wr} {g : Lg} (h : LD w S L p d ws g) (hk : ws.length ≤ 100000) (ht : Tab w) (hm : moreS g = 0) :
    Calls Tryz.prog 13 #[.pointer (some ⟨L, 0, none⟩)] w fun e w' => e = .returned (.tuple #[.int .u64 g.fin, .int .i64 0]) ∧ LD w' (More S w) L p d (ws ++ [⟨(secN g g.fin).toNat, R.encS (comR g)⟩]) (comG g) ∧ Kept S w w' := by
  have HG : Hid (LD w S L p d ws g) := h
  have HT : Hid (Tab w) := ht
  have HM : Hid (moreS g = 0) := hm
  clear h ht
  go_enter Tryz.func13, Tryz.ntmps13
  go_wp2_with fail
  refine (more_at HG.out.log HG.out.ok).mono ?_
  rintro e w2 ⟨rfl, b1⟩
  have HB2 : Hid (Below w.heap.size w w2) := b1
  have HG2 : Hid (LD w2 S L p d ws g) := HG.out.later HB2.out
  have c10 := GAt.c10 HG2.out.log
  have U2 : Hid (_) := build_com w2 g.imgs
  rw [hm]
  clear b1 hm
  go_wp2_with ((with_reducible refine at_ops ?_); (refine wpList_build_is (vs := [(0, .int .i64 2), (4, .int .i64 g.imgs)]) (by rfl) 62 rfl (by rfl) U2.out ?_); simp only [Act.put, List.setIfInBounds_toArray, List.set_cons_zero, List.set_cons_succ])
  refine (add_good HG2.out hk (HT.out.later HB2.out) ⟨2, 0, 0, R.zs 32, g.imgs⟩ (R.zs_len 32) (comR_wf HG.out.ok) (comR_may HG.out.ok) (by have := (moreS_zero HM.out).1; have := HG.out.ok.fM; omega)).mono ?_
  rintro e w3 ⟨rfl, d3, g3, k3⟩
  have c10' := GAt.c10 g3
  have cf10 := GAt.free g3 10
  have cf11 := GAt.free g3 11
  have Y3 : Hid (Dsk w3 (More (fun k => S k ∧ k ≠ L) w2) p g.sz d (ws ++ [⟨(secN g g.fin).toNat, R.encS (comR g)⟩]) ∧ GAt w3 L (some ⟨p, 0, none⟩) (addG g) ∧ Kept S w2 w3) := ⟨d3, g3, k3⟩
  have c11 := GAt.c11 g3
  clear d3 g3 k3 U2 c10
  go_wp2_with fail
  go_ret2
  have hs := HB2.out.size
  have hL := LAt.lt HG.out.log
  refine ⟨rfl, ?_, ?_⟩
  · have a1 := GAt.setI Y3.out.2.1 0
    have a2 := GAt.setB a1 (-1)
    refine ⟨a2, ?_, .inl HG.out.sl, comG_ok HG.out.ok HM.out⟩
    show Dsk _ _ p g.sz d _
    refine ((Y3.out.1.kept (kept_set w3 L 10 _) ?_).kept (kept_set _ L 11 _) ?_).mono ?_
    · rintro k (h | h) rfl
      · exact h.2 rfl
      · omega
    · rintro k (h | h) rfl
      · exact h.2 rfl
      · omega
    · rintro k _ (h | h)
      · exact ⟨.inl h.1, h.2⟩
      · exact ⟨.inr (by omega), by omega⟩
  · exact (((Kept.of_below (S := S) HB2.out).trans (T := S) Y3.out.2.2 (fun _ _ t => t)).setCell (p := ⟨L, 10, none⟩) (fun _ => HG.out.sl) _).setCell (p := ⟨L, 11, none⟩) (fun _ => HG.out.sl) _

set_option maxHeartbeats 1000000 in
set_option maxRecDepth 100000 in
theorem mark_nil (t : Int) (w : World) : Calls Tryz.prog 16 #[.pointer none, .int .u64 t] w fun e w' => e = .returned (.int .i64 1) ∧ w = w' := by
  go_enter Tryz.func16, Tryz.ntmps16
  go_wp2_with fail
  refine (lacks_nil _).mono ?_
  rintro e w1 ⟨rfl, rfl⟩
  go_wp2_with fail
  go_ret
  exact ⟨rfl, rfl⟩
set_option maxHeartbeats 1000000 in
set_option maxRecDepth 100000 in
theorem mark_none {w : World} {L : Nat} {g : Lg} (h : GAt w L none g) (t : Int) : Calls Tryz.prog 16 #[.pointer (some ⟨L, 0, none⟩), .int .u64 t] w fun e w' => e = .returned (.int .i64 1) ∧ w = w' := by
  go_enter Tryz.func16, Tryz.ntmps16
  go_wp2_with fail
  refine (lacks_none h).mono ?_
  rintro e w1 ⟨rfl, rfl⟩
  go_wp2_with fail
  go_ret
  exact ⟨rfl, rfl⟩
set_option maxHeartbeats 1000000 in
set_option maxRecDepth 100000 in
theorem mark_no {w : World} {L p : Nat} {g : Lg} (h : GAt w L (some ⟨p, 0, none⟩) g) (t : Int) (ho : Out g t) : Calls Tryz.prog 16 #[.pointer (some ⟨L, 0, none⟩), .int .u64 t] w fun e w' => e = .returned (.int .i64 2) ∧ w = w' := by
  have c7 := GAt.c7 h
  have c8 := GAt.c8 h
  go_enter Tryz.func16, Tryz.ntmps16
  go_wp2_with fail
  refine (lacks_some h).mono ?_
  rintro e w1 ⟨rfl, rfl⟩
  clear h
  by_cases h1 : t < g.tail
  · clear ho
    go_wp2_with fail
    go_ret
    exact ⟨rfl, rfl⟩
  · have h2 : g.fin < t := by rcases ho with h | h <;> omega
    clear ho
    go_wp2_with fail
    go_ret
    exact ⟨rfl, rfl⟩
set_option maxHeartbeats 2000000 in
set_option maxRecDepth 100000 in
theorem mark_ok {w : World} {S : Nat → Prop} {L p : Nat} {d : List Int} {ws : List Wr} {g : Lg} (h : LD w S L p d ws g) (hk : ws.length ≤ 100000) (ht : Tab w) (t : Int) (ho : ¬ Out g t) :
    Calls Tryz.prog 16 #[.pointer (some ⟨L, 0, none⟩), .int .u64 t] w fun e w' => e = .returned (.int .i64 0) ∧ LD w' (More S w) L p d (ws ++ [⟨0, encS (supL g t)⟩]) (mkG g t) ∧ Kept S w w' := by
  have HG : Hid (LD w S L p d ws g) := h
  have HT : Hid (Tab w) := ht
  have HO : Hid (¬ Out g t) := ho
  have c7 := GAt.c7 h.log
  have c8 := GAt.c8 h.log
  have h1 : ¬ t < g.tail := fun h => ho (.inl h)
  have h2 : ¬ g.fin < t := fun h => ho (.inr h)
  clear ht
  go_enter Tryz.func16, Tryz.ntmps16
  go_wp2_with fail
  refine (lacks_some h.log).mono ?_
  rintro e w1 ⟨rfl, rfl⟩
  clear h ho
  have BB : Hid (∀ w, (Instr.build 106 #[(0, .agg (ccells g.c).toArray), (1, .int .u64 t), (2, .int .u64 g.life)]).run Tryz.prog w = .ok (.agg (scells (supL g t)).toArray) w) := fun w => build29 w _ (supL g t) (fill_all (supL g t))
  go_wp2_with fail
  clear c7 c8
  refine wp_region_noPanic ?_
  refine wp_region_held_drew (S := fun w' => Below w.heap.size w w') (by kernel_rfl) (below_drawn 1) (fun hHeld => ?_)
  have D1 : Hid (Below w.heap.size w w.drew) := hHeld
  generalize w.drew = wd at *
  refine wpAnyH_take (i := 0) (v := ?va1) (by simp; rfl) (by kernel_rfl) (by kernel_rfl) (by kernel_rfl) (fun _ _ _ h => h) (Or.inl ⟨by rfl, ?ya1⟩) hHeld ?ra1
  case ya1 => intro w hSw; clear hSw; go_simp; with_reducible rfl
  simp only [Act.put, List.setIfInBounds_toArray, List.set_cons_zero, List.set_cons_succ]
  refine wpAnyH_take (i := 1) (v := ?va2) (by simp; rfl) (by kernel_rfl) (by kernel_rfl) (by kernel_rfl) (fun _ _ _ h => h) (Or.inl ⟨by rfl, ?ya2⟩) hHeld ?ra2
  case ya2 => intro w hSw; clear hSw; go_simp; with_reducible rfl
  simp only [Act.put, List.setIfInBounds_toArray, List.set_cons_zero, List.set_cons_succ]
  refine wpAnyH_take (i := 2) (v := ?va3) (by simp; rfl) (by kernel_rfl) (by kernel_rfl) (by kernel_rfl) (fun _ _ _ h => h) (Or.inl ⟨by rfl, ?ya3⟩) hHeld ?ra3
  case ya3 => intro w hSw; clear hSw; go_simp; with_reducible rfl
  simp only [Act.put, List.setIfInBounds_toArray, List.set_cons_zero, List.set_cons_succ]
  refine wpAnyH_take (i := 3) (v := _) (by simp; rfl) (by kernel_rfl) (by kernel_rfl) (by kernel_rfl) (fun _ _ _ h => h) (yieldsIf_load_mid (by rfl) 23 (.tmp 27) rfl L 1 rfl (ccells g.c) _ (fun _ h => GAt.rangeC (LAt.later HG.out.log h)) Tryz.underlying23 rfl (by rw [size23, ccells_len])) hHeld ?_
  simp only [Act.put, List.setIfInBounds_toArray, List.set_cons_zero, List.set_cons_succ]
  refine wpAnyH_take (i := 4) (v := ?va4) (by simp; rfl) (by kernel_rfl) (by kernel_rfl) (by kernel_rfl) (fun _ _ _ h => h) (Or.inl ⟨by rfl, ?ya4⟩) hHeld ?ra4
  case ya4 => intro w hSw; clear hSw; go_simp; with_reducible rfl
  simp only [Act.put, List.setIfInBounds_toArray, List.set_cons_zero, List.set_cons_succ]
  refine wpAnyH_take (i := 5) (v := ?va5) (by simp; rfl) (by kernel_rfl) (by kernel_rfl) (by kernel_rfl) (fun _ _ _ h => h) (Or.inl ⟨by rfl, ?ya5⟩) hHeld ?ra5
  case ya5 => intro w hSw; clear hSw; go_simp; with_reducible rfl
  simp only [Act.put, List.setIfInBounds_toArray, List.set_cons_zero, List.set_cons_succ]
  refine wpAnyH_take (i := 6) (v := ?va6) (by simp; rfl) (by kernel_rfl) (by kernel_rfl) (by kernel_rfl) (fun _ _ _ h => h) (Or.inl ⟨by rfl, ?ya6⟩) hHeld ?ra6
  case ya6 => intro w hSw; clear hSw; go_simp; with_reducible rfl
  simp only [Act.put, List.setIfInBounds_toArray, List.set_cons_zero, List.set_cons_succ]
  refine wpAnyH_take (i := 7) (v := ?va7) (by simp; rfl) (by kernel_rfl) (by kernel_rfl) (by kernel_rfl) (fun _ _ _ h => h) (Or.inl ⟨by rfl, ?ya7⟩) hHeld ?ra7
  case ya7 => intro w hSw; clear hSw; go_simp; with_reducible rfl
  simp only [Act.put, List.setIfInBounds_toArray, List.set_cons_zero, List.set_cons_succ]
  refine wpAnyH_take (i := 8) (v := ?va8) (by simp; rfl) (by kernel_rfl) (by kernel_rfl) (by kernel_rfl) (fun _ _ _ h => h) (Or.inl ⟨by rfl, ?ya8⟩) hHeld ?ra8
  case ya8 => intro w hSw; have z := GAt.c6 (LAt.later HG.out.log hSw); clear hSw; go_simp; with_reducible rfl
  simp only [Act.put, List.setIfInBounds_toArray, List.set_cons_zero, List.set_cons_succ]
  refine wpAnyH_take (i := 9) (v := _) (by simp; rfl) (by kernel_rfl) (by kernel_rfl) (by kernel_rfl) (fun _ _ _ h => h) (R.yields_build_is (by rfl) 106 rfl (by rfl) BB.out) hHeld ?_
  simp only [Act.put, List.setIfInBounds_toArray, List.set_cons_zero, List.set_cons_succ]
  refine wpAnyH_ready (rs := [10]) (by kernel_rfl) (by simp) ?_
  refine AllReadyH.cons (by simp; rfl) (fun Kc hKc => ?_) AllReadyH.nil
  go_simp
  refine (encode_good (supL g t) (supL_wf HG.out.ok HO.out) (supL_may HG.out.ok HO.out) _ (HT.out.later D1.out)).mono ?_
  rintro e w2 ⟨q2, rfl, m2⟩
  have B2 : Hid (Below w.heap.size w w2) := below_then D1.out m2.below
  have X2 : Hid (BIn w2 (some ⟨q2, 0, none⟩) 64 (encS (supL g t))) := m2.read
  refine hKc.out _ _ B2.out (fun hHeld => ?_)
  clear hKc Kc m2
  refine wpAnyH_take (i := 11) (v := ?va9) (by simp; rfl) (by kernel_rfl) (by kernel_rfl) (by kernel_rfl) (fun _ _ _ h => h) (Or.inl ⟨by rfl, ?ya9⟩) hHeld ?ra9
  case ya9 => intro w hSw; clear hSw; go_simp; with_reducible rfl
  simp only [Act.put, List.setIfInBounds_toArray, List.set_cons_zero, List.set_cons_succ]
  refine wpAnyH_take (i := 12) (v := ?va10) (by simp; rfl) (by kernel_rfl) (by kernel_rfl) (by kernel_rfl) (fun _ _ _ h => h) (Or.inl ⟨by rfl, ?ya10⟩) hHeld ?ra10
  case ya10 => intro w hSw; clear hSw; go_simp; with_reducible rfl
  simp only [Act.put, List.setIfInBounds_toArray, List.set_cons_zero, List.set_cons_succ]
  refine wpAnyH_take (i := 13) (v := ?va11) (by simp; rfl) (by kernel_rfl) (by kernel_rfl) (by kernel_rfl) (fun _ _ _ h => h) (Or.inl ⟨by rfl, ?ya11⟩) hHeld ?ra11
  case ya11 => intro w hSw; clear hSw; go_simp; with_reducible rfl
  simp only [Act.put, List.setIfInBounds_toArray, List.set_cons_zero, List.set_cons_succ]
  refine wpAnyH_take (i := 14) (v := ?va12) (by simp; rfl) (by kernel_rfl) (by kernel_rfl) (by kernel_rfl) (fun _ _ _ h => h) (Or.inl ⟨by rfl, ?ya12⟩) hHeld ?ra12
  case ya12 => intro w hSw; clear hSw; go_simp; with_reducible rfl
  simp only [Act.put, List.setIfInBounds_toArray, List.set_cons_zero, List.set_cons_succ]
  refine wpAnyH_take (i := 15) (v := ?va13) (by simp; rfl) (by kernel_rfl) (by kernel_rfl) (by kernel_rfl) (fun _ _ _ h => h) (Or.inl ⟨by rfl, ?ya13⟩) hHeld ?ra13
  case ya13 => intro w hSw; clear hSw; go_simp; with_reducible rfl
  simp only [Act.put, List.setIfInBounds_toArray, List.set_cons_zero, List.set_cons_succ]
  clear hHeld
  refine wpAnyH_done (by kernel_rfl) (NoPanic.normal ?_) _
  have HG2 : Hid (LD w2 S L p d ws g) := HG.out.later B2.out
  have c0 := GAt.c0 HG2.out.log
  have hz : (0 : Int) < (g.sz : Nat) := by have := HG.out.ok.sz_is; have := HG.out.ok.cf.1; have := HG.out.ok.cf.2.1; omega
  go_wp2_with fail
  refine (write_at HG2.out.dsk 0 (Int.le_refl 0) hz _ 64 _ X2.out hk).mono ?_
  rintro e w3 ⟨rfl, d3, k3⟩
  have Y3 : Hid (LD w3 (More S w2) L p d (ws ++ [⟨0, encS (supL g t)⟩]) g ∧ Kept S w2 w3) := HG2.out.wrote d3 k3
  have c9 := GAt.c9 Y3.out.1.log
  have cf9 := GAt.free Y3.out.1.log 9
  clear d3 k3 X2
  go_wp2_with fail
  go_ret
  have hs := B2.out.size
  refine ⟨rfl, ?_, ?_⟩
  · refine (Y3.out.1.set 9 _ (g' := mkG g t) (GAt.setM Y3.out.1.log t) rfl (mkG_ok HG.out.ok HO.out)).mono ?_
    rintro k _ (h | h)
    · exact .inl h
    · exact .inr (by omega)
  · exact ((Kept.of_below (S := S) B2.out).trans (T := S) Y3.out.2 (fun _ _ t => t)).setCell (p := ⟨L, 9, none⟩) (fun _ => HG.out.sl) _
end Go.Proofs.YtmcpjokbkkfgfaaGreatDoor

/-
  Layer 9, the functions: Read.
-/
namespace Go.Proofs.YtmcpjokbkkfgfaaGreatDoor
open Go.RowKit


set_option maxHeartbeats 1000000 in
set_option maxRecDepth 100000 in
theorem wread_nil (p : Int) (w : World) : Calls Tryz.prog 14 #[.pointer none, .int .u64 p] w fun e w' => e = .returned (.tuple #[.agg (R.rcells R.rec0).toArray, .int .i64 1]) ∧ Below w.heap.size w w' := by
  obtain ⟨w0, hw0⟩ : ∃ x, x = w.alloc (.cells (R.rcells R.rec0).toArray 62) := ⟨_, rfl⟩
  have A1 : Hid (_) := R.alloc31 w
  rw [← hw0] at A1
  have B0 : Hid (Below w.heap.size w w0) := by rw [hw0]; exact below_alloc w _
  have V0 : Hid (R.RAt 62 w0 w.heap.size R.rec0) := by rw [hw0]; exact R.RAt.new 62 w _
  have U1 : Hid (_) := R.build31 w0 #[] R.rec0 R.fill_none
  have T1 : Hid (_) := R.RAt.store R.size31 (s := R.rec0) V0.out R.rec0_len R.rec0_len
  have F1 : Hid (R.RAt 62 (w0.setRow w.heap.size (R.rcells R.rec0).toArray) w.heap.size R.rec0) := R.RAt.stored V0.out _
  have G1 : Hid (Below w.heap.size w (w0.setRow w.heap.size (R.rcells R.rec0).toArray)) := below_setRow B0.out (Nat.le_refl _) _
  clear hw0
  go_enter Tryz.func14, Tryz.ntmps14
  go_wp2_with ((with_reducible refine at_ops ?_); (refine wpList_alloc_is (by rfl) 62 rfl A1.out ?_); simp only [Act.put, List.setIfInBounds_toArray, List.set_cons_zero, List.set_cons_succ])
  refine (lacks_nil _).mono ?_
  rintro e w1 ⟨rfl, rfl⟩
  go_wp2_with ((with_reducible refine at_ops ?_); (first | (refine wpList_build_is (vs := []) (by rfl) 62 rfl (by rfl) U1.out ?_) | (refine wpList_store_is (by rfl) 62 rfl rfl rfl T1.out ?_)); simp only [Act.put, List.setIfInBounds_toArray, List.set_cons_zero, List.set_cons_succ])
  exact bodyPost_ret (R.results_rec Tryz.results14 _ _ w.heap.size 62 _ _ (by rfl) F1.out R.rec0_len Tryz.underlying62 rfl R.size31) rfl ⟨rfl, G1.out⟩
set_option maxHeartbeats 1000000 in
set_option maxRecDepth 100000 in
theorem wread_none {w : World} {L : Nat} {g : Lg} (h : GAt w L none g) (p : Int) : Calls Tryz.prog 14 #[.pointer (some ⟨L, 0, none⟩), .int .u64 p] w fun e w' => e = .returned (.tuple #[.agg (R.rcells R.rec0).toArray, .int .i64 1]) ∧ Below w.heap.size w w' := by
  obtain ⟨w0, hw0⟩ : ∃ x, x = w.alloc (.cells (R.rcells R.rec0).toArray 62) := ⟨_, rfl⟩
  have A1 : Hid (_) := R.alloc31 w
  rw [← hw0] at A1
  have B0 : Hid (Below w.heap.size w w0) := by rw [hw0]; exact below_alloc w _
  have V0 : Hid (R.RAt 62 w0 w.heap.size R.rec0) := by rw [hw0]; exact R.RAt.new 62 w _
  have U1 : Hid (_) := R.build31 w0 #[] R.rec0 R.fill_none
  have T1 : Hid (_) := R.RAt.store R.size31 (s := R.rec0) V0.out R.rec0_len R.rec0_len
  have F1 : Hid (R.RAt 62 (w0.setRow w.heap.size (R.rcells R.rec0).toArray) w.heap.size R.rec0) := R.RAt.stored V0.out _
  have G1 : Hid (Below w.heap.size w (w0.setRow w.heap.size (R.rcells R.rec0).toArray)) := below_setRow B0.out (Nat.le_refl _) _
  clear hw0
  go_enter Tryz.func14, Tryz.ntmps14
  go_wp2_with ((with_reducible refine at_ops ?_); (refine wpList_alloc_is (by rfl) 62 rfl A1.out ?_); simp only [Act.put, List.setIfInBounds_toArray, List.set_cons_zero, List.set_cons_succ])
  refine (lacks_none (LAt.later h B0.out)).mono ?_
  rintro e w1 ⟨rfl, rfl⟩
  go_wp2_with ((with_reducible refine at_ops ?_); (first | (refine wpList_build_is (vs := []) (by rfl) 62 rfl (by rfl) U1.out ?_) | (refine wpList_store_is (by rfl) 62 rfl rfl rfl T1.out ?_)); simp only [Act.put, List.setIfInBounds_toArray, List.set_cons_zero, List.set_cons_succ])
  exact bodyPost_ret (R.results_rec Tryz.results14 _ _ w.heap.size 62 _ _ (by rfl) F1.out R.rec0_len Tryz.underlying62 rfl R.size31) rfl ⟨rfl, G1.out⟩
set_option maxHeartbeats 2000000 in
set_option maxRecDepth 100000 in
theorem wread_at {w : World} {S : Nat → Prop} {L p : Nat} {d : List Int} {ws : List Wr} {g : Lg} (h : LD w S L p d ws g) (ht : Tab w) (x : Int) (hx : 0 ≤ x) :
    Calls Tryz.prog 14 #[.pointer (some ⟨L, 0, none⟩), .int .u64 x] w fun e w' => e = .returned (.tuple #[.agg (R.rcells (rdS g (newest ws d) x).1).toArray, .int .i64 (rdS g (newest ws d) x).2]) ∧ Below w.heap.size w w' := by
  obtain ⟨w0, hw0⟩ : ∃ x, x = w.alloc (.cells (R.rcells R.rec0).toArray 62) := ⟨_, rfl⟩
  have A1 : Hid (_) := R.alloc31 w
  rw [← hw0] at A1
  have B0 : Hid (Below w.heap.size w w0) := by rw [hw0]; exact below_alloc w _
  have V0 : Hid (R.RAt 62 w0 w.heap.size R.rec0) := by rw [hw0]; exact R.RAt.new 62 w _
  have HG0 : Hid (LD w0 S L p d ws g) := h.later B0.out
  have c7 := GAt.c7 HG0.out.log
  have c8 := GAt.c8 HG0.out.log
  have HT : Hid (Tab w) := ht
  clear hw0 h ht
  go_enter Tryz.func14, Tryz.ntmps14
  go_wp2_with ((with_reducible refine at_ops ?_); (refine wpList_alloc_is (by rfl) 62 rfl A1.out ?_); simp only [Act.put, List.setIfInBounds_toArray, List.set_cons_zero, List.set_cons_succ])
  refine (lacks_some HG0.out.log).mono ?_
  rintro e w1 ⟨rfl, rfl⟩
  by_cases ho : Outr g x
  · have HR : Hid (rdS g (newest ws d) x = (R.rec0, 30)) := rdS_out _ ho
    have U1 : Hid (_) := R.build31 w0 #[] R.rec0 R.fill_none
    have T1 : Hid (_) := R.RAt.store R.size31 (s := R.rec0) V0.out R.rec0_len R.rec0_len
    have F1 : Hid (R.RAt 62 (w0.setRow w.heap.size (R.rcells R.rec0).toArray) w.heap.size R.rec0) := R.RAt.stored V0.out _
    have G1 : Hid (Below w.heap.size w (w0.setRow w.heap.size (R.rcells R.rec0).toArray)) := below_setRow B0.out (Nat.le_refl _) _
    by_cases h1 : x < g.tail
    · clear ho
      go_wp2_with ((with_reducible refine at_ops ?_); (first | (refine wpList_build_is (vs := []) (by rfl) 62 rfl (by rfl) U1.out ?_) | (refine wpList_store_is (by rfl) 62 rfl rfl rfl T1.out ?_)); simp only [Act.put, List.setIfInBounds_toArray, List.set_cons_zero, List.set_cons_succ])
      rw [HR.out]
      exact bodyPost_ret (R.results_rec Tryz.results14 _ _ w.heap.size 62 _ _ (by rfl) F1.out R.rec0_len Tryz.underlying62 rfl R.size31) rfl ⟨rfl, G1.out⟩
    · have h2 : g.fin ≤ x := by rcases ho with h | h <;> omega
      clear ho
      go_wp2_with ((with_reducible refine at_ops ?_); (first | (refine wpList_build_is (vs := []) (by rfl) 62 rfl (by rfl) U1.out ?_) | (refine wpList_store_is (by rfl) 62 rfl rfl rfl T1.out ?_)); simp only [Act.put, List.setIfInBounds_toArray, List.set_cons_zero, List.set_cons_succ])
      rw [HR.out]
      exact bodyPost_ret (R.results_rec Tryz.results14 _ _ w.heap.size 62 _ _ (by rfl) F1.out R.rec0_len Tryz.underlying62 rfl R.size31) rfl ⟨rfl, G1.out⟩
  · have h1 : ¬ x < g.tail := fun h => ho (.inl h)
    have h2 : ¬ g.fin ≤ x := fun h => ho (.inr h)
    have HO : Hid (¬ Outr g x) := ho
    have hxM : x ≤ 4611686018427387904 := by have := HG0.out.ok.fM; omega
    clear ho
    go_wp2_with fail
    clear c7 c8
    refine wp_region_noPanic ?_
    refine wp_region_held_drew (S := fun w' => Below w0.heap.size w0 w') (by kernel_rfl) (below_drawn 1) (fun hHeld => ?_)
    have D1 : Hid (Below w0.heap.size w0 w0.drew) := hHeld
    generalize w0.drew = wd at *
    refine wpAnyH_take (i := 0) (v := ?va1) (by simp; rfl) (by kernel_rfl) (by kernel_rfl) (by kernel_rfl) (fun _ _ _ h => h) (Or.inl ⟨by rfl, ?ya1⟩) hHeld ?ra1
    case ya1 => intro w hSw; clear hSw; go_simp; with_reducible rfl
    simp only [Act.put, List.setIfInBounds_toArray, List.set_cons_zero, List.set_cons_succ]
    refine wpAnyH_take (i := 1) (v := ?va2) (by simp; rfl) (by kernel_rfl) (by kernel_rfl) (by kernel_rfl) (fun _ _ _ h => h) (Or.inl ⟨by rfl, ?ya2⟩) hHeld ?ra2
    case ya2 => intro w hSw; clear hSw; go_simp; with_reducible rfl
    simp only [Act.put, List.setIfInBounds_toArray, List.set_cons_zero, List.set_cons_succ]
    refine wpAnyH_take (i := 2) (v := ?va3) (by simp; rfl) (by kernel_rfl) (by kernel_rfl) (by kernel_rfl) (fun _ _ _ h => h) (Or.inl ⟨by rfl, ?ya3⟩) hHeld ?ra3
    case ya3 => intro w hSw; clear hSw; go_simp; with_reducible rfl
    simp only [Act.put, List.setIfInBounds_toArray, List.set_cons_zero, List.set_cons_succ]
    refine wpAnyH_take (i := 3) (v := ?va4) (by simp; rfl) (by kernel_rfl) (by kernel_rfl) (by kernel_rfl) (fun _ _ _ h => h) (Or.inl ⟨by rfl, ?ya4⟩) hHeld ?ra4
    case ya4 => intro w hSw; have z := GAt.c0 (LAt.later HG0.out.log hSw); clear hSw; go_simp; with_reducible rfl
    simp only [Act.put, List.setIfInBounds_toArray, List.set_cons_zero, List.set_cons_succ]
    refine wpAnyH_take (i := 4) (v := ?va5) (by simp; rfl) (by kernel_rfl) (by kernel_rfl) (by kernel_rfl) (fun _ _ _ h => h) (Or.inl ⟨by rfl, ?ya5⟩) hHeld ?ra5
    case ya5 => intro w hSw; clear hSw; go_simp; with_reducible rfl
    simp only [Act.put, List.setIfInBounds_toArray, List.set_cons_zero, List.set_cons_succ]
    refine wpAnyH_take (i := 5) (v := ?va6) (by simp; rfl) (by kernel_rfl) (by kernel_rfl) (by kernel_rfl) (fun _ _ _ h => h) (Or.inl ⟨by rfl, ?ya6⟩) hHeld ?ra6
    case ya6 => intro w hSw; clear hSw; go_simp; with_reducible rfl
    simp only [Act.put, List.setIfInBounds_toArray, List.set_cons_zero, List.set_cons_succ]
    refine wpAnyH_ready (rs := [6]) (by kernel_rfl) (by simp) ?_
    refine AllReadyH.cons (by simp; rfl) (fun Kc hKc => ?_) AllReadyH.nil
    go_simp
    refine (sector_at (LAt.later HG0.out.log D1.out) HG0.out.ok x hx hxM).mono ?_
    rintro e wn ⟨rfl, rfl⟩
    refine hKc.out _ _ hHeld (fun hHeld => ?_)
    clear hKc Kc
    refine wpAnyH_ready (rs := [7]) (by kernel_rfl) (by simp) ?_
    refine AllReadyH.cons (by simp; rfl) (fun Kc hKc => ?_) AllReadyH.nil
    go_simp
    refine (read_at (HG0.out.later D1.out).dsk (secN g x) (secN_in HG0.out.ok _).1 (secN_in HG0.out.ok _).2).mono ?_
    rintro e w2 ⟨q2, c2, rfl, x2, hc2, b2⟩
    have X2 : Hid (BIn w2 q2 64 (newest ws d (secN g x).toNat)) := x2
    have X2b : Hid (Below wd.heap.size wd w2) := b2
    have B2 : Hid (Below w.heap.size w w2) := below_then (below_then B0.out D1.out) b2
    refine hKc.out _ _ (below_then D1.out b2) (fun hHeld => ?_)
    clear hKc Kc x2 b2
    refine wpAnyH_take (i := 8) (v := ?va7) (by simp; rfl) (by kernel_rfl) (by kernel_rfl) (by kernel_rfl) (fun _ _ _ h => h) (Or.inl ⟨by rfl, ?ya7⟩) hHeld ?ra7
    case ya7 => intro w hSw; clear hSw; go_simp; with_reducible rfl
    simp only [Act.put, List.setIfInBounds_toArray, List.set_cons_zero, List.set_cons_succ]
    refine wpAnyH_take (i := 9) (v := ?va8) (by simp; rfl) (by kernel_rfl) (by kernel_rfl) (by kernel_rfl) (fun _ _ _ h => h) (Or.inl ⟨by rfl, ?ya8⟩) hHeld ?ra8
    case ya8 => intro w hSw; clear hSw; go_simp; with_reducible rfl
    simp only [Act.put, List.setIfInBounds_toArray, List.set_cons_zero, List.set_cons_succ]
    refine wpAnyH_take (i := 10) (v := ?va9) (by simp; rfl) (by kernel_rfl) (by kernel_rfl) (by kernel_rfl) (fun _ _ _ h => h) (Or.inl ⟨by rfl, ?ya9⟩) hHeld ?ra9
    case ya9 => intro w hSw; clear hSw; go_simp; with_reducible rfl
    simp only [Act.put, List.setIfInBounds_toArray, List.set_cons_zero, List.set_cons_succ]
    refine wpAnyH_take (i := 11) (v := ?va10) (by simp; rfl) (by kernel_rfl) (by kernel_rfl) (by kernel_rfl) (fun _ _ _ h => h) (Or.inl ⟨by rfl, ?ya10⟩) hHeld ?ra10
    case ya10 => intro w hSw; clear hSw; go_simp; with_reducible rfl
    simp only [Act.put, List.setIfInBounds_toArray, List.set_cons_zero, List.set_cons_succ]
    refine wpAnyH_take (i := 12) (v := ?va11) (by simp; rfl) (by kernel_rfl) (by kernel_rfl) (by kernel_rfl) (fun _ _ _ h => h) (Or.inl ⟨by rfl, ?ya11⟩) hHeld ?ra11
    case ya11 => intro w hSw; clear hSw; go_simp; with_reducible rfl
    simp only [Act.put, List.setIfInBounds_toArray, List.set_cons_zero, List.set_cons_succ]
    clear hHeld
    refine wpAnyH_done (by kernel_rfl) (NoPanic.normal ?_) _
    go_wp2_with fail
    refine (R.decode_any q2 64 c2 _ w2 X2.out hc2 (HT.out.later B2.out).half).mono ?_
    rintro e w3 ⟨rfl, b3⟩
    have B3 : Hid (Below w.heap.size w w3) := below_then B2.out b3
    have V3 : Hid (R.RAt 62 w3 w.heap.size R.rec0) := R.RAt.below V0.out (below_then (below_then D1.out X2b.out) b3) (by have := R.RAt.lt V0.out; omega)
    have HW : Hid ((R.decS (newest ws d (secN g x).toNat)).1.Wf) := R.decS_wf _ X2.out.byte
    have HRE : Hid (∀ z, R.decS (newest ws d (secN g x).toNat) = z → (¬ z.2 = 0 → rdS g (newest ws d) x = (R.rec0, z.2)) ∧ (z.2 = 0 → ¬ z.1.pos = x → rdS g (newest ws d) x = (R.rec0, 60)) ∧ (z.2 = 0 → z.1.pos = x → rdS g (newest ws d) x = (z.1, 0))) := by
      rintro z rfl
      exact ⟨fun a => rdS_err HO.out a, fun a b => rdS_other HO.out a b, fun a b => rdS_ok HO.out a b⟩
    clear b3 X2 X2b B2 D1 V0 A1 HG0 HT
    obtain ⟨⟨r, k⟩, hz⟩ : ∃ z, R.decS (newest ws d (secN g x).toNat) = z := ⟨_, rfl⟩
    have HZ : Hid (_) := HRE.out _ hz
    rw [hz] at HW ⊢
    clear hz HRE
    obtain ⟨w4, hw4⟩ : ∃ y, y = w3.alloc (.cells (R.rcells r).toArray 62) := ⟨_, rfl⟩
    have A4 : Hid (_) := R.alloc31 w3
    have T4 : Hid (_) := R.store_new R.size31 w3 r HW.out.len
    rw [← hw4] at T4
    have B34 : Hid (Below w3.heap.size w3 w4) := by rw [hw4]; exact below_alloc w3 _
    have B4 : Hid (Below w.heap.size w w4) := below_then B3.out B34.out
    have V4 : Hid (R.RAt 62 w4 w.heap.size R.rec0) := R.RAt.later V3.out B34.out
    have R4 : Hid (R.RAt 62 w4 w3.heap.size r) := by rw [hw4]; exact R.RAt.new 62 w3 r
    have hne : w.heap.size < w3.heap.size := R.RAt.lt V3.out
    clear hw4 B34 V3 B3
    have U4 : Hid (_) := R.build31 w4 #[] R.rec0 R.fill_none
    have T5 : Hid (_) := R.RAt.store R.size31 (s := R.rec0) V4.out R.rec0_len R.rec0_len
    have F5 : Hid (R.RAt 62 (w4.setRow w.heap.size (R.rcells R.rec0).toArray) w.heap.size R.rec0) := R.RAt.stored V4.out _
    have G5 : Hid (Below w.heap.size w (w4.setRow w.heap.size (R.rcells R.rec0).toArray)) := below_setRow B4.out (Nat.le_refl _) _
    by_cases hk : k = 0
    · subst hk
      have c1 := R.RAt.c1 R4.out
      by_cases hp : r.pos = x
      · have HR : Hid (_) := HZ.out.2.2 rfl hp
        have L6 : Hid (_) := R.RAt.load31 R4.out HW.out.len
        have T6 : Hid (_) := R.RAt.store R.size31 (s := r) V4.out R.rec0_len HW.out.len
        have F6 : Hid (R.RAt 62 (w4.setRow w.heap.size (R.rcells r).toArray) w.heap.size r) := R.RAt.stored V4.out _
        have G6 : Hid (Below w.heap.size w (w4.setRow w.heap.size (R.rcells r).toArray)) := below_setRow B4.out (Nat.le_refl _) _
        clear HZ T5 F5 G5 U4
        go_wp2_with ((with_reducible refine at_ops ?_); (first | (refine wpList_alloc_is (by rfl) 62 rfl A4.out ?_) | (refine wpList_load_is (by rfl) 62 rfl rfl L6.out ?_) | (refine wpList_store_is (by rfl) 62 rfl rfl rfl T4.out ?_) | (refine wpList_store_is (by rfl) 62 rfl rfl rfl T6.out ?_)); simp only [Act.put, List.setIfInBounds_toArray, List.set_cons_zero, List.set_cons_succ])
        rw [HR.out]
        exact bodyPost_ret (R.results_rec Tryz.results14 _ _ w.heap.size 62 _ _ (by rfl) F6.out HW.out.len Tryz.underlying62 rfl R.size31) rfl ⟨rfl, G6.out⟩
      · have HR : Hid (_) := HZ.out.2.1 rfl hp
        have hq : (r.pos != x) = true := by simp [hp]
        clear HZ
        go_wp2_with ((with_reducible refine at_ops ?_); (first | (refine wpList_alloc_is (by rfl) 62 rfl A4.out ?_) | (refine wpList_store_is (by rfl) 62 rfl rfl rfl T4.out ?_) | (refine wpList_build_is (vs := []) (by rfl) 62 rfl (by rfl) U4.out ?_) | (refine wpList_store_is (by rfl) 62 rfl rfl rfl T5.out ?_)); simp only [Act.put, List.setIfInBounds_toArray, List.set_cons_zero, List.set_cons_succ])
        rw [HR.out]
        exact bodyPost_ret (R.results_rec Tryz.results14 _ _ w.heap.size 62 _ _ (by rfl) F5.out R.rec0_len Tryz.underlying62 rfl R.size31) rfl ⟨rfl, G5.out⟩
    · have HR : Hid (_) := HZ.out.1 hk
      have hq : (k != 0) = true := by simp [hk]
      clear HZ
      go_wp2_with ((with_reducible refine at_ops ?_); (first | (refine wpList_alloc_is (by rfl) 62 rfl A4.out ?_) | (refine wpList_store_is (by rfl) 62 rfl rfl rfl T4.out ?_) | (refine wpList_build_is (vs := []) (by rfl) 62 rfl (by rfl) U4.out ?_) | (refine wpList_store_is (by rfl) 62 rfl rfl rfl T5.out ?_)); simp only [Act.put, List.setIfInBounds_toArray, List.set_cons_zero, List.set_cons_succ])
      rw [HR.out]
      exact bodyPost_ret (R.results_rec Tryz.results14 _ _ w.heap.size 62 _ _ (by rfl) F5.out R.rec0_len Tryz.underlying62 rfl R.size31) rfl ⟨rfl, G5.out⟩
end Go.Proofs.YtmcpjokbkkfgfaaGreatDoor

/-
  Layer 9: All: the sequence that it hands back, for every loop body.
-/
namespace Go.Proofs.YtmcpjokbkkfgfaaGreatDoor
open Go.RowKit Go.Shelf

attribute [local go_sem] Oper.semAt_some

section
variable {F : Fence} {n : Nat} {P : Program} {ops : Array Oper} {rest : List Oper} {o : Oper} {a : Act} {w w' : World} {Q : Exit → Act → World → Prop}
theorem in_ops (h : wpListIn F n P ops Q (o :: rest) a w) : wpListIn F n P ops Q (o :: rest) a w := h
theorem in_val (hgd : Region.wanted o (yielded ops a.tmps) = true) (hab : o.about P w a.eval = none) (hop : ∀ c, o.op ≠ .defer c) {v : Value} (hrun : (execOp a.eval o).run P w = .ok (.value v) w') (h : wpListIn F n P ops Q rest (a.put o.dst v) w') : wpListIn F n P ops Q (o :: rest) a w :=
  wpListIn_step fun K hK => by
    rw [if_pos hgd]
    unfold Oper.wpIn
    refine ⟨fun f hf => (by rw [hab] at hf; cases hf), ?_⟩
    rw [Oper.semAt_plain F _ _ hop, hrun]
    exact hK _ _ h
theorem in_skp (hgd : Region.wanted o (yielded ops a.tmps) = true) (hab : o.about P w a.eval = none) (hop : ∀ c, o.op ≠ .defer c) (hrun : (execOp a.eval o).run P w = .ok .skip w') (h : wpListIn F n P ops Q rest (a.put o.dst undef) w') : wpListIn F n P ops Q (o :: rest) a w :=
  wpListIn_step fun K hK => by
    rw [if_pos hgd]
    unfold Oper.wpIn
    refine ⟨fun f hf => (by rw [hab] at hf; cases hf), ?_⟩
    rw [Oper.semAt_plain F _ _ hop, hrun]
    exact hK _ _ h
theorem in_load (hgd : Region.wanted o (yielded ops a.tmps) = true) (ty : TypeId) {x : Operand} (ho : o.op = .load ty x) {p v : Value} (hx : a.eval x = p) (hrun : (Instr.loadAt ty p).run P w = .ok v w) (h : wpListIn F n P ops Q rest (a.put o.dst v) w) : wpListIn F n P ops Q (o :: rest) a w :=
  in_val hgd (by simp [Oper.about, ho]) (by rw [ho]; intro c e; cases e) (by unfold execOp; simp only [ho, hx, Sem.run_bind, hrun, Result.andThen_ok, Sem.run_pure]) h
theorem in_alloc (hgd : Region.wanted o (yielded ops a.tmps) = true) (ty : TypeId) (ho : o.op = .alloc ty) {v : Value} (hrun : (Instr.alloc ty true (.tuple #[])).run P w = .ok v w') (h : wpListIn F n P ops Q rest (a.put o.dst v) w') : wpListIn F n P ops Q (o :: rest) a w :=
  in_val hgd (by simp [Oper.about, ho]) (by rw [ho]; intro c e; cases e) (by unfold execOp; simp only [ho, Sem.run_bind, hrun, Result.andThen_ok, Sem.run_pure]) h
theorem in_store (hgd : Region.wanted o (yielded ops a.tmps) = true) (ty : TypeId) {x y : Operand} (ho : o.op = .store ty x y) {p v : Value} (hx : a.eval x = p) (hy : a.eval y = v) (hrun : (Instr.storeAt ty p v).run P w = .ok () w') (h : wpListIn F n P ops Q rest (a.put o.dst undef) w') : wpListIn F n P ops Q (o :: rest) a w :=
  in_skp hgd (by simp [Oper.about, ho]) (by rw [ho]; intro c e; cases e) (by unfold execOp; simp only [ho, hx, hy, Sem.run_bind, hrun, Result.andThen_ok, Sem.run_pure]) h
end
theorem grown_of_below {V V' : World} (h : Below V.heap.size V V') : V.grownBy V' none := ⟨h.os, h.tape, h.output, h.size, fun k hk _ => h.block k hk⟩
theorem keeps_of_below {V V' : World} (h : Below V.heap.size V V') (B : Nat) : KeepsFrom B V V' := ⟨h.size, fun k _ _ hk _ => (h.block k (Array.getElem?_eq_some_iff.1 hk).1).trans hk⟩
theorem own_below {β : Type} {B : Nat} {J : β → World → Prop} (h : OwnFrom B J) {s : β} {V V' : World} (hs : J s V) (hb : Below V.heap.size V V') : J s V' := h s V V' none hs (grown_of_below hb) (fun _ e => by cases e)
theorem own_wide {β : Type} {B C : Nat} {J : β → World → Prop} (h : OwnFrom B J) (hb : B ≤ C) : OwnFrom C J := fun s V V' row hs hg hr => h s V V' row hs hg fun r e => ⟨Nat.le_trans hb (hr r e).1, (hr r e).2⟩
theorem own_box {β : Type} (B k : Nat) (t : TypeId) (v : Value) : OwnFrom B (fun (_ : β) W => Boxed W k t v) := Own.from (boxed_own k t (fun _ => v)) B

/-- a record that has come in -/
abbrev WR := { r : R.Rec // r.Wf }
abbrev recs (xs : List WR) : List R.Rec := xs.map (·.1)
/-- what a round over the records keeps: what lay below, and the boxes of three kinds that the iterator has laid -/
structure KP (n₀ : Nat) (W W' : World) : Prop where
  low : Below n₀ W W'
  typ : ∀ k v t, (t = 24 ∨ t = 35 ∨ t = 155) → Boxed W k t v → Boxed W' k t v
theorem KP.trans {n₀ : Nat} {A B C : World} (h : KP n₀ A B) (k : KP n₀ B C) : KP n₀ A C := ⟨h.low.trans k.low, fun i v t ht hb => k.typ i v t ht (h.typ i v t ht hb)⟩
theorem KP.putObj {n₀ : Nat} (W : World) (l : Nat) (o o' : Obj) (hl : n₀ ≤ l) (h : W.heap[l]? = some o) (hc : o.isCells = false) : KP n₀ W (W.putObj l o') := by
  refine ⟨⟨rfl, rfl, rfl, by simp, fun k hk => World.putObj_heap_other (by omega)⟩, fun k v t _ hb => ?_⟩
  refine (World.putObj_heap_other ?_).trans hb
  rintro rfl
  have hb' : W.heap[k]? = some (.cells #[v] t (0, 0)) := hb
  rw [hb'] at h
  cases h
  cases hc
theorem KP.below {n₀ : Nat} {W W' : World} (h : Below W.heap.size W W') (hn : n₀ ≤ W.heap.size) : KP n₀ W W' := ⟨h.mono hn, fun k _ _ _ hb => (h.block k hb.lt).trans hb⟩

/-- **what All asks of a log**: its tail, its end, what it reads, in every later world -/
structure Rdr (w0 : World) (lp : Option Addr) (t e : Int) (rd : Int → R.Rec × Int) : Prop where
  tl : ∀ V, Below w0.heap.size w0 V → Calls Tryz.prog 19 #[.pointer lp] V fun r w' => r = .returned (.int .u64 t) ∧ V = w'
  en : ∀ V, Below w0.heap.size w0 V → Calls Tryz.prog 20 #[.pointer lp] V fun r w' => r = .returned (.int .u64 e) ∧ V = w'
  rdc : ∀ V, Below w0.heap.size w0 V → ∀ x, 0 ≤ x → Calls Tryz.prog 14 #[.pointer lp, .int .u64 x] V fun r w' => r = .returned (.tuple #[.agg (R.rcells (rd x).1).toArray, .int .i64 (rd x).2]) ∧ Below V.heap.size V w'
  wf : ∀ x, (rd x).1.Wf
  pos : ∀ x, (rd x).2 = 0 → (rd x).1.pos = x
  t0 : 0 ≤ t
  te : t ≤ e
  eM : e ≤ 4611686018427387904
  us : e - t ≤ 64
theorem LD.rdr {w : World} {S : Nat → Prop} {L p : Nat} {d : List Int} {ws : List Wr} {g : Lg} (h : LD w S L p d ws g) (ht : Tab w) : Rdr w (some ⟨L, 0, none⟩) g.tail g.fin (rdS g (newest ws d)) := by
  have h1 := h.ok.t0; have h2 := h.ok.tm; have h3 := h.ok.mf; have h4 := h.ok.fM; have h5 := h.ok.us; have h6 := h.ok.cf.2.1
  refine ⟨fun V hb => ltail_at (LAt.later h.log hb), fun V hb => lend_at (LAt.later h.log hb), fun V hb x hx => wread_at (h.later hb) (ht.later hb) x hx, fun x => ?_, fun x hx => (rdS_pos hx).1, h1, by omega, h4, by omega⟩
  obtain ⟨q', cap, v', hp⟩ := h.dsk
  exact rdS_wf (newk_bytes hp.db hp.fit _)
theorem GAt.rdr {w : World} {L : Nat} {g : Lg} (h : GAt w L none g) (ok : g.Ok) : Rdr w (some ⟨L, 0, none⟩) g.tail g.fin (fun _ => (R.rec0, 1)) := by
  have h1 := ok.t0; have h2 := ok.tm; have h3 := ok.mf; have h4 := ok.fM; have h5 := ok.us; have h6 := ok.cf.2.1
  exact ⟨fun V hb => ltail_at (LAt.later h hb), fun V hb => lend_at (LAt.later h hb), fun V hb x _ => wread_none (LAt.later h hb) x, fun _ => R.rec0_wf, fun _ e => (by cases e), h1, by omega, h4, by omega⟩
theorem nil_rdr (w : World) : Rdr w none 0 0 (fun _ => (R.rec0, 1)) :=
  ⟨fun V _ => ltail_nil V, fun V _ => lend_nil V, fun V _ x _ => wread_nil x V, fun _ => R.rec0_wf, fun _ e => (by cases e), Int.le_refl 0, Int.le_refl 0, by decide, by decide⟩
/-- each of these positions has been read, and these are its records -/
def Rds (rd : Int → R.Rec × Int) (pre : List G.U64) (xs : List WR) : Prop := pre.map (fun u => rd u.1) = xs.map fun x => (x.1, 0)
theorem Rds.nil (rd : Int → R.Rec × Int) : Rds rd [] [] := rfl
theorem Rds.snoc {rd : Int → R.Rec × Int} {pre : List G.U64} {xs : List WR} (h : Rds rd pre xs) {u : G.U64} {x : WR} (hx : rd u.1 = (x.1, 0)) : Rds rd (pre ++ [u]) (xs ++ [x]) := by
  unfold Rds at *
  rw [List.map_append, List.map_append, h, List.map_singleton, List.map_singleton, hx]
theorem Rds.len {rd : Int → R.Rec × Int} {pre : List G.U64} {xs : List WR} (h : Rds rd pre xs) : pre.length = xs.length := by
  have := congrArg List.length h
  simpa using this
theorem allR_step (rd : Int → R.Rec × Int) : ∀ (m : Nat) (t : Int) (k : Nat) (xs : List R.Rec), m ≤ k → ((List.range m).map fun (i : Nat) => rd (t + (i : Int))) = xs.map (fun x => (x, 0)) → allR rd t k = xs ++ allR rd (t + m) (k - m)
  | 0, t, k, xs, _, h => by
    cases xs with
    | nil => simp
    | cons a r => simp at h
  | m + 1, t, k, xs, hk, h => by
    obtain ⟨k', rfl⟩ : ∃ k', k = k' + 1 := ⟨k - 1, by omega⟩
    rw [List.range_succ_eq_map, List.map_cons, List.map_map] at h
    cases xs with
    | nil => simp at h
    | cons a r =>
      rw [List.map_cons] at h
      obtain ⟨h1, h2⟩ := List.cons.inj h
      have e0 : t + ((0 : Nat) : Int) = t := by omega
      rw [e0] at h1
      have ih := allR_step rd m (t + 1) k' r (by omega) (by
        rw [← h2]
        apply List.map_congr_left
        intro i _
        show rd (t + 1 + (i : Int)) = rd (t + ((i + 1 : Nat) : Int))
        congr 1
        omega)
      show (if (rd t).2 = 0 then (rd t).1 :: allR rd (t + 1) k' else []) = _
      rw [h1, if_pos rfl, ih]
      simp only [List.cons_append]
      rw [show t + 1 + (m : Int) = t + ((m + 1 : Nat) : Int) by omega, show k' - m = k' + 1 - (m + 1) by omega]
theorem Rds.all {rd : Int → R.Rec × Int} {pre : List G.U64} {xs : List WR} {t e : Int} (h : Rds rd pre xs) (hu : e - t ≤ 64) (hp : G.nums pre <+: G.spanI t e) : allR rd t (e - t).toNat = recs xs ++ allR rd (t + pre.length) ((e - t).toNat - pre.length) := by
  have hk : G.spanN t e = (e - t).toNat := by unfold G.spanN; omega
  have hpl : pre.length ≤ (e - t).toNat := by
    have := hp.length_le
    rw [G.spanI_length, hk] at this
    simpa using this
  refine allR_step rd pre.length t _ _ hpl ?_
  have e1 : G.nums pre = (List.range pre.length).map fun (i : Nat) => t + (i : Int) := by
    have := List.prefix_iff_eq_take.1 hp
    rw [this, G.spanI, ← List.map_take, List.take_range]
    simp only [List.length_map]
    congr 2
    rw [hk]; omega
  have e2 : ((List.range pre.length).map fun (i : Nat) => rd (t + (i : Int))) = (G.nums pre).map fun p => rd p := by rw [e1, List.map_map]; rfl
  rw [e2, List.map_map]
  have h' : pre.map (fun u => rd u.1) = xs.map fun x => (x.1, 0) := h
  rw [show ((fun p => rd p) ∘ fun (x : G.U64) => x.1) = fun u => rd u.1 from rfl, h', List.map_map]
  rfl
end Go.Proofs.YtmcpjokbkkfgfaaGreatDoor
