/-
  Layer 9, the functions: Commit, Mark.
-/
import Derived.Test.YtmcpjokbkkfgfaaDoorUe
namespace Go.Proofs.YtmcpjokbkkfgfaaDoor
open Go.RowKit


set_option maxHeartbeats 1000000 in
set_option maxRecDepth 100000 in
theorem commit_nil (w : World) : Calls Tryd.prog 9 #[.pointer none] w fun e w' => e = .returned (.tuple #[.int .u64 0, .int .i64 1]) ∧ w = w' := by
  go_enter Tryd.func9, Tryd.ntmps9
  go_wp2_with fail
  refine (more_nil _).mono ?_
  rintro e w1 ⟨rfl, rfl⟩
  go_wp2_with fail
  go_ret2
  exact ⟨rfl, rfl⟩
set_option maxHeartbeats 1000000 in
set_option maxRecDepth 100000 in
theorem commit_none {w : World} {L : Nat} {g : Lg} (h : GAt w L none g) : Calls Tryd.prog 9 #[.pointer (some ⟨L, 0, none⟩)] w fun e w' => e = .returned (.tuple #[.int .u64 0, .int .i64 1]) ∧ w = w' := by
  go_enter Tryd.func9, Tryd.ntmps9
  go_wp2_with fail
  refine (more_none h).mono ?_
  rintro e w1 ⟨rfl, rfl⟩
  go_wp2_with fail
  go_ret2
  exact ⟨rfl, rfl⟩
set_option maxHeartbeats 1000000 in
set_option maxRecDepth 100000 in
theorem commit_no {w : World} {L p : Nat} {g : Lg} (h : GAt w L (some ⟨p, 0, none⟩) g) (ok : g.Ok) (hm : ¬ moreS g = 0) : Calls Tryd.prog 9 #[.pointer (some ⟨L, 0, none⟩)] w fun e w' => e = .returned (.tuple #[.int .u64 0, .int .i64 (moreS g)]) ∧ Below w.heap.size w w' := by
  go_enter Tryd.func9, Tryd.ntmps9
  go_wp2_with fail
  refine (more_at h ok).mono ?_
  rintro e w1 ⟨rfl, b1⟩
  have HB1 : Hid (Below w.heap.size w w1) := b1
  obtain ⟨q, hq0⟩ : ∃ q, q = moreS g := ⟨_, rfl⟩
  have HQ : Hid (q = moreS g) := hq0
  rw [← hq0] at hm ⊢
  have hq : (q != 0) = true := by simp [hm]
  clear hq0 b1 h ok
  go_wp2_with fail
  go_ret2
  exact ⟨by rw [← HQ.out]; rfl, HB1.out⟩
set_option maxHeartbeats 2000000 in
set_option maxRecDepth 100000 in
theorem commit_ok {w : World} {S : Nat → Prop} {L p : Nat} {d : List Int} {ws : List Wr} {g : Lg} (h : LD w S L p d ws g) (hk : ws.length ≤ 100000) (ht : Tab w) (hm : moreS g = 0) :
    Calls Tryd.prog 9 #[.pointer (some ⟨L, 0, none⟩)] w fun e w' => e = .returned (.tuple #[.int .u64 g.fin, .int .i64 0]) ∧ LD w' (More S w) L p d (ws ++ [⟨(secN g g.fin).toNat, R.encS (comR g)⟩]) (comG g) ∧ Kept S w w' := by
  have HG : Hid (LD w S L p d ws g) := h
  have HT : Hid (Tab w) := ht
  have HM : Hid (moreS g = 0) := hm
  clear h ht
  go_enter Tryd.func9, Tryd.ntmps9
  go_wp2_with fail
  refine (more_at HG.out.log HG.out.ok).mono ?_
  rintro e w2 ⟨rfl, b1⟩
  have HB2 : Hid (Below w.heap.size w w2) := b1
  have HG2 : Hid (LD w2 S L p d ws g) := HG.out.later HB2.out
  have c10 := GAt.c10 HG2.out.log
  have U2 : Hid (_) := build_com w2 g.imgs
  rw [hm]
  clear b1 hm
  go_wp2_with ((with_reducible refine at_ops ?_); (refine wpList_build_is (vs := [(0, .int .i64 2), (4, .int .i64 g.imgs)]) (by rfl) 41 rfl (by rfl) U2.out ?_); simp only [Act.put, List.setIfInBounds_toArray, List.set_cons_zero, List.set_cons_succ])
  refine (add_good HG2.out hk (HT.out.later HB2.out) ⟨2, 0, 0, R.zs 32, g.imgs⟩ (R.zs_len 32) (comR_wf HG.out.ok) (comR_may HG.out.ok) (by have := (moreS_zero HM.out).1; have := HG.out.ok.fM; omega)).mono ?_
  rintro e w3 ⟨rfl, d3, g3, k3⟩
  have c10' := GAt.c10 g3
  have cf10 := GAt.free g3 10
  have cf11 := GAt.free g3 11
  have Y3 : Hid (Dsk w3 (More (fun k => S k ∧ k ≠ L) w2) p g.sz d (ws ++ [⟨(secN g g.fin).toNat, R.encS (comR g)⟩]) ∧ GAt w3 L (some ⟨p, 0, none⟩) (addG g) ∧ Kept S w2 w3) := ⟨d3, g3, k3⟩
  have c11 := GAt.c11 g3
  clear d3 g3 k3 U2 c10
  go_wp2_with fail
  go_ret2
  have hs := HB2.out.size
  have hL := LAt.lt HG.out.log
  refine ⟨rfl, ?_, ?_⟩
  · have a1 := GAt.setI Y3.out.2.1 0
    have a2 := GAt.setB a1 (-1)
    refine ⟨a2, ?_, .inl HG.out.sl, comG_ok HG.out.ok HM.out⟩
    show Dsk _ _ p g.sz d _
    refine ((Y3.out.1.kept (kept_set w3 L 10 _) ?_).kept (kept_set _ L 11 _) ?_).mono ?_
    · rintro k (h | h) rfl
      · exact h.2 rfl
      · omega
    · rintro k (h | h) rfl
      · exact h.2 rfl
      · omega
    · rintro k _ (h | h)
      · exact ⟨.inl h.1, h.2⟩
      · exact ⟨.inr (by omega), by omega⟩
  · exact (((Kept.of_below (S := S) HB2.out).trans (T := S) Y3.out.2.2 (fun _ _ t => t)).setCell (p := ⟨L, 10, none⟩) (fun _ => HG.out.sl) _).setCell (p := ⟨L, 11, none⟩) (fun _ => HG.out.sl) _

set_option maxHeartbeats 1000000 in
set_option maxRecDepth 100000 in
theorem mark_nil (t : Int) (w : World) : Calls Tryd.prog 12 #[.pointer none, .int .u64 t] w fun e w' => e = .returned (.int .i64 1) ∧ w = w' := by
  go_enter Tryd.func12, Tryd.ntmps12
  go_wp2_with fail
  refine (lacks_nil _).mono ?_
  rintro e w1 ⟨rfl, rfl⟩
  go_wp2_with fail
  go_ret
  exact ⟨rfl, rfl⟩
set_option maxHeartbeats 1000000 in
set_option maxRecDepth 100000 in
theorem mark_none {w : World} {L : Nat} {g : Lg} (h : GAt w L none g) (t : Int) : Calls Tryd.prog 12 #[.pointer (some ⟨L, 0, none⟩), .int .u64 t] w fun e w' => e = .returned (.int .i64 1) ∧ w = w' := by
  go_enter Tryd.func12, Tryd.ntmps12
  go_wp2_with fail
  refine (lacks_none h).mono ?_
  rintro e w1 ⟨rfl, rfl⟩
  go_wp2_with fail
  go_ret
  exact ⟨rfl, rfl⟩
set_option maxHeartbeats 1000000 in
set_option maxRecDepth 100000 in
theorem mark_no {w : World} {L p : Nat} {g : Lg} (h : GAt w L (some ⟨p, 0, none⟩) g) (t : Int) (ho : Out g t) : Calls Tryd.prog 12 #[.pointer (some ⟨L, 0, none⟩), .int .u64 t] w fun e w' => e = .returned (.int .i64 2) ∧ w = w' := by
  have c7 := GAt.c7 h
  have c8 := GAt.c8 h
  go_enter Tryd.func12, Tryd.ntmps12
  go_wp2_with fail
  refine (lacks_some h).mono ?_
  rintro e w1 ⟨rfl, rfl⟩
  clear h
  by_cases h1 : t < g.tail
  · clear ho
    go_wp2_with fail
    go_ret
    exact ⟨rfl, rfl⟩
  · have h2 : g.fin < t := by rcases ho with h | h <;> omega
    clear ho
    go_wp2_with fail
    go_ret
    exact ⟨rfl, rfl⟩
set_option maxHeartbeats 2000000 in
set_option maxRecDepth 100000 in
theorem mark_ok {w : World} {S : Nat → Prop} {L p : Nat} {d : List Int} {ws : List Wr} {g : Lg} (h : LD w S L p d ws g) (hk : ws.length ≤ 100000) (ht : Tab w) (t : Int) (ho : ¬ Out g t) :
    Calls Tryd.prog 12 #[.pointer (some ⟨L, 0, none⟩), .int .u64 t] w fun e w' => e = .returned (.int .i64 0) ∧ LD w' (More S w) L p d (ws ++ [⟨0, encS (supL g t)⟩]) (mkG g t) ∧ Kept S w w' := by
  have HG : Hid (LD w S L p d ws g) := h
  have HT : Hid (Tab w) := ht
  have HO : Hid (¬ Out g t) := ho
  have c7 := GAt.c7 h.log
  have c8 := GAt.c8 h.log
  have h1 : ¬ t < g.tail := fun h => ho (.inl h)
  have h2 : ¬ g.fin < t := fun h => ho (.inr h)
  clear ht
  go_enter Tryd.func12, Tryd.ntmps12
  go_wp2_with fail
  refine (lacks_some h.log).mono ?_
  rintro e w1 ⟨rfl, rfl⟩
  clear h ho
  have BB : Hid (∀ w, (Instr.build 88 #[(0, .agg (ccells g.c).toArray), (1, .int .u64 t), (2, .int .u64 g.life)]).run Tryd.prog w = .ok (.agg (scells (supL g t)).toArray) w) := fun w => build29 w _ (supL g t) (fill_all (supL g t))
  go_wp2_with fail
  clear c7 c8
  refine wp_region_noPanic ?_
  refine wp_region_held_drew (S := fun w' => Below w.heap.size w w') (by kernel_rfl) (below_drawn 1) (fun hHeld => ?_)
  have D1 : Hid (Below w.heap.size w w.drew) := hHeld
  generalize w.drew = wd at *
  refine wpAnyH_take (i := 0) (v := ?va1) (by simp; rfl) (by kernel_rfl) (by kernel_rfl) (by kernel_rfl) (fun _ _ _ h => h) (Or.inl ⟨by rfl, ?ya1⟩) hHeld ?ra1
  case ya1 => intro w hSw; clear hSw; go_simp; with_reducible rfl
  simp only [Act.put, List.setIfInBounds_toArray, List.set_cons_zero, List.set_cons_succ]
  refine wpAnyH_take (i := 1) (v := ?va2) (by simp; rfl) (by kernel_rfl) (by kernel_rfl) (by kernel_rfl) (fun _ _ _ h => h) (Or.inl ⟨by rfl, ?ya2⟩) hHeld ?ra2
  case ya2 => intro w hSw; clear hSw; go_simp; with_reducible rfl
  simp only [Act.put, List.setIfInBounds_toArray, List.set_cons_zero, List.set_cons_succ]
  refine wpAnyH_take (i := 2) (v := ?va3) (by simp; rfl) (by kernel_rfl) (by kernel_rfl) (by kernel_rfl) (fun _ _ _ h => h) (Or.inl ⟨by rfl, ?ya3⟩) hHeld ?ra3
  case ya3 => intro w hSw; clear hSw; go_simp; with_reducible rfl
  simp only [Act.put, List.setIfInBounds_toArray, List.set_cons_zero, List.set_cons_succ]
  refine wpAnyH_take (i := 3) (v := _) (by simp; rfl) (by kernel_rfl) (by kernel_rfl) (by kernel_rfl) (fun _ _ _ h => h) (yieldsIf_load_mid (by rfl) 29 (.tmp 27) rfl L 1 rfl (ccells g.c) _ (fun _ h => GAt.rangeC (LAt.later HG.out.log h)) Tryd.underlying29 rfl (by rw [size23, ccells_len])) hHeld ?_
  simp only [Act.put, List.setIfInBounds_toArray, List.set_cons_zero, List.set_cons_succ]
  refine wpAnyH_take (i := 4) (v := ?va4) (by simp; rfl) (by kernel_rfl) (by kernel_rfl) (by kernel_rfl) (fun _ _ _ h => h) (Or.inl ⟨by rfl, ?ya4⟩) hHeld ?ra4
  case ya4 => intro w hSw; clear hSw; go_simp; with_reducible rfl
  simp only [Act.put, List.setIfInBounds_toArray, List.set_cons_zero, List.set_cons_succ]
  refine wpAnyH_take (i := 5) (v := ?va5) (by simp; rfl) (by kernel_rfl) (by kernel_rfl) (by kernel_rfl) (fun _ _ _ h => h) (Or.inl ⟨by rfl, ?ya5⟩) hHeld ?ra5
  case ya5 => intro w hSw; clear hSw; go_simp; with_reducible rfl
  simp only [Act.put, List.setIfInBounds_toArray, List.set_cons_zero, List.set_cons_succ]
  refine wpAnyH_take (i := 6) (v := ?va6) (by simp; rfl) (by kernel_rfl) (by kernel_rfl) (by kernel_rfl) (fun _ _ _ h => h) (Or.inl ⟨by rfl, ?ya6⟩) hHeld ?ra6
  case ya6 => intro w hSw; clear hSw; go_simp; with_reducible rfl
  simp only [Act.put, List.setIfInBounds_toArray, List.set_cons_zero, List.set_cons_succ]
  refine wpAnyH_take (i := 7) (v := ?va7) (by simp; rfl) (by kernel_rfl) (by kernel_rfl) (by kernel_rfl) (fun _ _ _ h => h) (Or.inl ⟨by rfl, ?ya7⟩) hHeld ?ra7
  case ya7 => intro w hSw; clear hSw; go_simp; with_reducible rfl
  simp only [Act.put, List.setIfInBounds_toArray, List.set_cons_zero, List.set_cons_succ]
  refine wpAnyH_take (i := 8) (v := ?va8) (by simp; rfl) (by kernel_rfl) (by kernel_rfl) (by kernel_rfl) (fun _ _ _ h => h) (Or.inl ⟨by rfl, ?ya8⟩) hHeld ?ra8
  case ya8 => intro w hSw; have z := GAt.c6 (LAt.later HG.out.log hSw); clear hSw; go_simp; with_reducible rfl
  simp only [Act.put, List.setIfInBounds_toArray, List.set_cons_zero, List.set_cons_succ]
  refine wpAnyH_take (i := 9) (v := _) (by simp; rfl) (by kernel_rfl) (by kernel_rfl) (by kernel_rfl) (fun _ _ _ h => h) (R.yields_build_is (by rfl) 88 rfl (by rfl) BB.out) hHeld ?_
  simp only [Act.put, List.setIfInBounds_toArray, List.set_cons_zero, List.set_cons_succ]
  refine wpAnyH_ready (rs := [10]) (by kernel_rfl) (by simp) ?_
  refine AllReadyH.cons (by simp; rfl) (fun Kc hKc => ?_) AllReadyH.nil
  go_simp
  refine (encode_good (supL g t) (supL_wf HG.out.ok HO.out) (supL_may HG.out.ok HO.out) _ (HT.out.later D1.out)).mono ?_
  rintro e w2 ⟨q2, rfl, m2⟩
  have B2 : Hid (Below w.heap.size w w2) := below_then D1.out m2.below
  have X2 : Hid (BIn w2 (some ⟨q2, 0, none⟩) 64 (encS (supL g t))) := m2.read
  refine hKc.out _ _ B2.out (fun hHeld => ?_)
  clear hKc Kc m2
  refine wpAnyH_take (i := 11) (v := ?va9) (by simp; rfl) (by kernel_rfl) (by kernel_rfl) (by kernel_rfl) (fun _ _ _ h => h) (Or.inl ⟨by rfl, ?ya9⟩) hHeld ?ra9
  case ya9 => intro w hSw; clear hSw; go_simp; with_reducible rfl
  simp only [Act.put, List.setIfInBounds_toArray, List.set_cons_zero, List.set_cons_succ]
  refine wpAnyH_take (i := 12) (v := ?va10) (by simp; rfl) (by kernel_rfl) (by kernel_rfl) (by kernel_rfl) (fun _ _ _ h => h) (Or.inl ⟨by rfl, ?ya10⟩) hHeld ?ra10
  case ya10 => intro w hSw; clear hSw; go_simp; with_reducible rfl
  simp only [Act.put, List.setIfInBounds_toArray, List.set_cons_zero, List.set_cons_succ]
  refine wpAnyH_take (i := 13) (v := ?va11) (by simp; rfl) (by kernel_rfl) (by kernel_rfl) (by kernel_rfl) (fun _ _ _ h => h) (Or.inl ⟨by rfl, ?ya11⟩) hHeld ?ra11
  case ya11 => intro w hSw; clear hSw; go_simp; with_reducible rfl
  simp only [Act.put, List.setIfInBounds_toArray, List.set_cons_zero, List.set_cons_succ]
  refine wpAnyH_take (i := 14) (v := ?va12) (by simp; rfl) (by kernel_rfl) (by kernel_rfl) (by kernel_rfl) (fun _ _ _ h => h) (Or.inl ⟨by rfl, ?ya12⟩) hHeld ?ra12
  case ya12 => intro w hSw; clear hSw; go_simp; with_reducible rfl
  simp only [Act.put, List.setIfInBounds_toArray, List.set_cons_zero, List.set_cons_succ]
  refine wpAnyH_take (i := 15) (v := ?va13) (by simp; rfl) (by kernel_rfl) (by kernel_rfl) (by kernel_rfl) (fun _ _ _ h => h) (Or.inl ⟨by rfl, ?ya13⟩) hHeld ?ra13
  case ya13 => intro w hSw; clear hSw; go_simp; with_reducible rfl
  simp only [Act.put, List.setIfInBounds_toArray, List.set_cons_zero, List.set_cons_succ]
  clear hHeld
  refine wpAnyH_done (by kernel_rfl) (NoPanic.normal ?_) _
  have HG2 : Hid (LD w2 S L p d ws g) := HG.out.later B2.out
  have c0 := GAt.c0 HG2.out.log
  have hz : (0 : Int) < (g.sz : Nat) := by have := HG.out.ok.sz_is; have := HG.out.ok.cf.1; have := HG.out.ok.cf.2.1; omega
  go_wp2_with fail
  refine (write_at HG2.out.dsk 0 (Int.le_refl 0) hz _ 64 _ X2.out hk).mono ?_
  rintro e w3 ⟨rfl, d3, k3⟩
  have Y3 : Hid (LD w3 (More S w2) L p d (ws ++ [⟨0, encS (supL g t)⟩]) g ∧ Kept S w2 w3) := HG2.out.wrote d3 k3
  have c9 := GAt.c9 Y3.out.1.log
  have cf9 := GAt.free Y3.out.1.log 9
  clear d3 k3 X2
  go_wp2_with fail
  go_ret
  have hs := B2.out.size
  refine ⟨rfl, ?_, ?_⟩
  · refine (Y3.out.1.set 9 _ (g' := mkG g t) (GAt.setM Y3.out.1.log t) rfl (mkG_ok HG.out.ok HO.out)).mono ?_
    rintro k _ (h | h)
    · exact .inl h
    · exact .inr (by omega)
  · exact ((Kept.of_below (S := S) B2.out).trans (T := S) Y3.out.2 (fun _ _ t => t)).setCell (p := ⟨L, 9, none⟩) (fun _ => HG.out.sl) _
end Go.Proofs.YtmcpjokbkkfgfaaDoor
