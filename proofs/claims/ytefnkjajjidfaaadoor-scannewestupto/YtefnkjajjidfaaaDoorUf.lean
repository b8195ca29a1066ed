/-
  Layer 9, the functions: Commit.
-/
import Derived.Test.YtefnkjajjidfaaaDoorUe
namespace Go.Proofs.YtefnkjajjidfaaaDoor
open Go.RowKit

set_option maxHeartbeats 1000000 in
set_option maxRecDepth 100000 in
theorem commit_nil (w : World) : Calls Tryd.prog 34 #[.pointer none] w fun e w' => e = .returned (.tuple #[.int .u64 0, .int .i64 1]) ∧ w = w' := by
  go_enter Tryd.func34, Tryd.ntmps34
  go_wp2_with fail
  refine (more_nil _).mono ?_
  rintro e w1 ⟨rfl, rfl⟩
  go_wp2_with fail
  go_ret2
  exact ⟨rfl, rfl⟩
set_option maxHeartbeats 1000000 in
set_option maxRecDepth 100000 in
theorem commit_none {w : World} {L : Nat} {g : Lg} (h : GAt w L none g) : Calls Tryd.prog 34 #[.pointer (some ⟨L, 0, none⟩)] w fun e w' => e = .returned (.tuple #[.int .u64 0, .int .i64 1]) ∧ w = w' := by
  go_enter Tryd.func34, Tryd.ntmps34
  go_wp2_with fail
  refine (more_none h).mono ?_
  rintro e w1 ⟨rfl, rfl⟩
  go_wp2_with fail
  go_ret2
  exact ⟨rfl, rfl⟩
set_option maxHeartbeats 1000000 in
set_option maxRecDepth 100000 in
theorem commit_no {w : World} {L p : Nat} {g : Lg} (h : GAt w L (some ⟨p, 0, none⟩) g) (ok : g.Ok) (hm : ¬ moreS g = 0) : Calls Tryd.prog 34 #[.pointer (some ⟨L, 0, none⟩)] w fun e w' => e = .returned (.tuple #[.int .u64 0, .int .i64 (moreS g)]) ∧ Below w.heap.size w w' := by
  go_enter Tryd.func34, Tryd.ntmps34
  go_wp2_with fail
  refine (more_at h ok).mono ?_
  rintro e w1 ⟨rfl, b1⟩
  have HB1 : Hid (Below w.heap.size w w1) := b1
  obtain ⟨q, hq0⟩ : ∃ q, q = moreS g := ⟨_, rfl⟩
  have HQ : Hid (q = moreS g) := hq0
  rw [← hq0] at hm ⊢
  have hq : (q != 0) = true := by simp [hm]
  clear hq0 b1 h ok
  go_wp2_with fail
  go_ret2
  exact ⟨by rw [← HQ.out]; rfl, HB1.out⟩
set_option maxHeartbeats 2000000 in
set_option maxRecDepth 100000 in
theorem commit_ok {w : World} {S : Nat → Prop} {L p : Nat} {d : List Int} {ws : List Wr} {g : Lg} (h : LD w S L p d ws g) (hk : ws.length ≤ 100000) (ht : Tab w) (hm : moreS g = 0) :
    Calls Tryd.prog 34 #[.pointer (some ⟨L, 0, none⟩)] w fun e w' => e = .returned (.tuple #[.int .u64 g.fin, .int .i64 0]) ∧ LD w' (More S w) L p d (ws ++ [⟨(secN g g.fin).toNat, R.encS (comR g)⟩]) (comG g) ∧ Kept S w w' := by
  have HG : Hid (LD w S L p d ws g) := h
  have HT : Hid (Tab w) := ht
  have HM : Hid (moreS g = 0) := hm
  clear h ht
  go_enter Tryd.func34, Tryd.ntmps34
  go_wp2_with fail
  refine (more_at HG.out.log HG.out.ok).mono ?_
  rintro e w2 ⟨rfl, b1⟩
  have HB2 : Hid (Below w.heap.size w w2) := b1
  have HG2 : Hid (LD w2 S L p d ws g) := HG.out.later HB2.out
  have c10 := GAt.c10 HG2.out.log
  have U2 : Hid (_) := build_com w2 g.imgs
  rw [hm]
  clear b1 hm
  go_wp2_with ((with_reducible refine at_ops ?_); (refine wpList_build_is (vs := [(0, .int .i64 2), (4, .int .i64 g.imgs)]) (by rfl) 60 rfl (by rfl) U2.out ?_); simp only [Act.put, List.setIfInBounds_toArray, List.set_cons_zero, List.set_cons_succ])
  refine (add_good HG2.out hk (HT.out.later HB2.out) ⟨2, 0, 0, R.zs 32, g.imgs⟩ (R.zs_len 32) (comR_wf HG.out.ok) (comR_may HG.out.ok) (by have := (moreS_zero HM.out).1; have := HG.out.ok.fM; omega)).mono ?_
  rintro e w3 ⟨rfl, d3, g3, k3⟩
  have c10' := GAt.c10 g3
  have cf10 := GAt.free g3 10
  have cf11 := GAt.free g3 11
  have Y3 : Hid (Dsk w3 (More (fun k => S k ∧ k ≠ L) w2) p g.sz d (ws ++ [⟨(secN g g.fin).toNat, R.encS (comR g)⟩]) ∧ GAt w3 L (some ⟨p, 0, none⟩) (addG g) ∧ Kept S w2 w3) := ⟨d3, g3, k3⟩
  have c11 := GAt.c11 g3
  clear d3 g3 k3 U2 c10
  go_wp2_with fail
  go_ret2
  have hs := HB2.out.size
  have hL := LAt.lt HG.out.log
  refine ⟨rfl, ?_, ?_⟩
  · have a1 := GAt.setI Y3.out.2.1 0
    have a2 := GAt.setB a1 (-1)
    refine ⟨a2, ?_, .inl HG.out.sl, comG_ok HG.out.ok HM.out⟩
    show Dsk _ _ p g.sz d _
    refine ((Y3.out.1.kept (kept_set w3 L 10 _) ?_).kept (kept_set _ L 11 _) ?_).mono ?_
    · rintro k (h | h) rfl
      · exact h.2 rfl
      · omega
    · rintro k (h | h) rfl
      · exact h.2 rfl
      · omega
    · rintro k _ (h | h)
      · exact ⟨.inl h.1, h.2⟩
      · exact ⟨.inr (by omega), by omega⟩
  · exact (((Kept.of_below (S := S) HB2.out).trans (T := S) Y3.out.2.2 (fun _ _ t => t)).setCell (p := ⟨L, 10, none⟩) (fun _ => HG.out.sl) _).setCell (p := ⟨L, 11, none⟩) (fun _ => HG.out.sl) _
end Go.Proofs.YtefnkjajjidfaaaDoor
