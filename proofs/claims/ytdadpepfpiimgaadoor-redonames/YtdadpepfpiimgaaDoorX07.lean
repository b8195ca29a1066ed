import Derived.Test.YtdadpepfpiimgaaDoorX06
set_option maxHeartbeats 20000000
set_option maxRecDepth 100000
namespace Go.Proofs.YtdadpepfpiimgaaDoor
open Go.RowKit
theorem own_shape {w : World} {base : Nat} {v : Value} {n : Nat} {xs : List Value} (h : w.ownsRow base 5 1 v n xs) (h0 : 0 < n) : ∃ g cap, v = .slice (some ⟨g, 0, none⟩) n cap ∧ n ≤ cap := by
  rcases h.2 with ⟨_, h2⟩ | ⟨g, cap, cur, h2, _, _, h3, _⟩
  · omega
  · exact ⟨g, cap, h2, h3⟩
theorem own_bin {w : World} {base g cap n : Nat} {xs : List Int} (h : w.ownsRow base 5 1 (.slice (some ⟨g, 0, none⟩) n cap) n (U8 xs)) (hb : Bytes xs) : BIn w (some ⟨g, 0, none⟩) n xs := by
  obtain ⟨p, c, e, hr, _⟩ := own_in h hb
  simp only [Value.slice.injEq] at e
  rw [e.1]
  exact hr
theorem box_kept {w w' : World} {t : TypeId} {g : Nat} {cs : List Value} {base n : Nat} {v : Value} {xs : List Value} (hb : LAt t w g cs) (ho : w.ownsRow base 5 1 v n xs) (hg : w.grownBy w' v.ownBlock) (ht : t ≠ 5) : LAt t w' g cs := by
  refine (hg.block g hb.lt (fun e => ?_)).trans hb
  rcases ho.2 with ⟨rfl, _⟩ | ⟨g', cap, cur, rfl, _, h2, _⟩
  · simp [Value.ownBlock] at e
  · simp only [Value.ownBlock, Option.some.injEq] at e
    subst e
    unfold LAt at hb
    rw [hb] at h2
    simp only [Option.some.injEq, Obj.cells.injEq] at h2
    exact ht h2.2.1
theorem build_new (w : World) (s : Sup) : (Instr.build 53 #[(0, .agg (ccells s).toArray), (1, .int .u64 0), (2, .int .u64 1)]).run Tryd.prog w = .ok (.agg (scells (sup1 s)).toArray) w :=
  build29 w _ (sup1 s) (fill_all (sup1 s))
set_option maxHeartbeats 2000000 in
set_option maxRecDepth 100000 in
theorem hnew_good (s : Sup) (hc : MayC s) (w : World) (ht : Tab w) :
    Calls Tryd.prog 5 #[.agg (ccells s).toArray] w fun e w' => ∃ p, e = .returned (.tuple #[.pointer (some ⟨p, 0, none⟩), .int .i64 0]) ∧ Dsk w' (fun k => w.heap.size ≤ k) p (cntS s) (newS s) [] ∧ Below w.heap.size w w' := by
  obtain ⟨i0, hi, hz0, hz1, hz2⟩ := info_parts info5
  have L1 : Hid (_) := CAt.load23 (LAt.new 28 w (ccells s))
  have HA : Hid (CAt (w.alloc (.cells (ccells s).toArray 28)) w.heap.size s) := LAt.new 28 w (ccells s)
  have HB : Hid (Below w.heap.size w (w.alloc (.cells (ccells s).toArray 28))) := below_alloc w _
  have U1 : Hid (_) := build_new (w.alloc (.cells (ccells s).toArray 28)) s
  have HC : Hid (MayC s) := hc
  have HT : Hid (Tab w) := ht
  obtain ⟨m, hm⟩ : ∃ m, m = s.bl.toNat := ⟨_, rfl⟩
  obtain ⟨l, hl⟩ : ∃ l, l = s.lc.toNat := ⟨_, rfl⟩
  have hb1 := hc.1
  have hl1 := hc.2.1
  have hmi : s.bl = (m : Int) := by omega
  have hli : s.lc = (l : Int) := by omega
  have hm1 : 1 ≤ m := by omega
  have hm2 : m ≤ 64 := by omega
  have hl0 : 2 ≤ l := by omega
  have hl2 : l ≤ 64 := by omega
  obtain ⟨K, hK⟩ : ∃ K, K = 64 * l := ⟨_, rfl⟩
  have HN : Hid (newS s = encS (sup1 s) ++ homes m ++ zs K ∧ 64 * (m + 1) + K = 64 * cntS s ∧ cntS s ≤ 4096) := by
    refine ⟨by unfold newS; rw [hK, hl, hm], ?_, ?_⟩
    · unfold cntS; omega
    · have := (cntS_bd hc).2; omega
  have hk3 : (l : Int) * 64 = (K : Int) := by omega
  have hk1 : 0 < K := by omega
  have hk2 : K ≤ 4096 := by omega
  have HCI : Hid (∀ w', CAt w' w.heap.size s → w'.cell? ⟨w.heap.size, 0, none⟩ = some (.int .i64 (m : Int)) ∧ w'.cell? ⟨w.heap.size, 1, none⟩ = some (.int .i64 (l : Int))) := by
    rw [← hmi, ← hli]; exact fun w' h => ⟨CAt.c0 h, CAt.c1 h⟩
  clear hc ht hm hl hb1 hl1 hmi hli hK
  go_enter Tryd.func5, Tryd.ntmps5
  go_wp2_with ((with_reducible refine at_ops ?_); (first | (refine wpList_load_is (by rfl) 28 rfl rfl L1.out ?_) | (refine wpList_build_is (vs := [(0, .agg (ccells s).toArray), (1, .int .u64 0), (2, .int .u64 1)]) (by rfl) 53 rfl (by rfl) U1.out ?_)); simp only [Act.put, List.setIfInBounds_toArray, List.set_cons_zero, List.set_cons_succ])
  refine (encode_good (sup1 s) (sup1_wf HC.out) (sup1_may HC.out) _ (HT.out.later HB.out)).mono ?_
  rintro e w1 ⟨g1, rfl, m1⟩
  have A1 : Hid (CAt w1 w.heap.size s) := LAt.later HA.out m1.below
  have B1 : Hid (Below w.heap.size w w1) := below_then HB.out m1.below
  have O1 : Hid (w1.ownsRow w.heap.size 5 1 (.slice (some ⟨g1, 0, none⟩) 64 64) 64 (U8 (encS (sup1 s)))) := own_mono m1.own HB.out.size
  clear m1 HA HB L1 U1
  have c0 := (HCI.out _ A1.out).1
  go_wp2_with fail
  clear c0
  go_loopw [4, 20] (fun v i wr => ∃ k : Nat, k ≤ m ∧ i = .int .i64 k ∧ Hid (CAt wr w.heap.size s ∧ wr.ownsRow w.heap.size 5 1 v (64 * (k + 1)) (U8 (encS (sup1 s) ++ homes k)) ∧ Below w.heap.size w wr)) (fun _ i _ => m - (intOf i).toNat)
  case atStart => exact ⟨0, Nat.zero_le _, rfl, A1.out, by simpa [homes] using O1.out, B1.out⟩
  case round =>
    obtain ⟨k, hk, rfl, HI⟩ := hrel
    clear A1 B1 O1
    have Ar : Hid (CAt wr w.heap.size s) := HI.out.1
    have Or : Hid (wr.ownsRow w.heap.size 5 1 u4 (64 * (k + 1)) (U8 (encS (sup1 s) ++ homes k))) := HI.out.2.1
    have Br : Hid (Below w.heap.size w wr) := HI.out.2.2
    clear HI
    by_cases hlt : k < m
    · have U2 : Hid (_) := buildV wr
      go_wp2_with ((with_reducible refine at_ops ?_); (refine wpList_build_is (vs := []) (by rfl) 35 rfl (by rfl) U2.out ?_); simp only [Act.put, List.setIfInBounds_toArray, List.set_cons_zero, List.set_cons_succ])
      refine (hencode_good (k : Int) (zs 32) ⟨by omega, by omega⟩ (zs_len 32) (zs_bytes 32) wr (HT.out.later Br.out)).mono ?_
      rintro e w2 ⟨g2, rfl, m2⟩
      have A2 : Hid (CAt w2 w.heap.size s) := LAt.later Ar.out m2.below
      have B2 : Hid (Below w.heap.size w w2) := below_then Br.out m2.below
      have O2 : Hid (w2.ownsRow w.heap.size 5 1 u4 (64 * (k + 1)) (U8 (encS (sup1 s) ++ homes k))) := own_later Or.out m2.below
      have X2 : Hid (BIn w2 (some ⟨g2, 0, none⟩) 64 (homeS (k : Int) (zs 32))) := m2.read
      have HL : Hid ((homeS (k : Int) (zs 32)).length = 64) := homeS_len _ (zs_len 32)
      have HX : Hid (U8 (encS (sup1 s) ++ homes (k + 1)) = U8 (encS (sup1 s) ++ homes k) ++ U8 (homeS (k : Int) (zs 32))) := by show _ = _; rw [homes_succ]; simp only [U8, List.map_append, List.append_assoc]
      clear m2 Ar Or Br U2
      generalize homeS (k : Int) (zs 32) = hs at *
      go_wp2_with (at_builtin; refine wpList_append_own _ rfl (.tmp 32) (.tmp 33) 49 rfl w.heap.size 5 i0 (.int .u8 0) 1 1 Tryd.underlying49 hi hz0 hz1 hz2 rfl (by decide) u4 (64 * (k + 1)) (U8 (encS (sup1 s) ++ homes k)) rfl O2.out ⟨g2, 0, none⟩ 64 64 (U8 hs) rfl (by rw [U8_length, HL.out]) X2.out.news (ones_u8 _) (by unfold maxLen; omega) (by omega) B2.out.size ?_)
      intro v3 w3 hown3 hgrow3 _
      have F3 : Hid (CAt w3 w.heap.size s ∧ w3.ownsRow w.heap.size 5 1 v3 (64 * (k + 1 + 1)) (U8 (encS (sup1 s) ++ homes (k + 1))) ∧ Below w.heap.size w w3) := by
        refine ⟨box_kept A2.out O2.out hgrow3 (by decide), ?_, B2.out.grown hgrow3 B2.out.size (fun g hg => (O2.out.lt g hg).1)⟩
        rw [HX.out, show 64 * (k + 1 + 1) = 64 * (k + 1) + 64 by omega]
        exact hown3
      clear hown3 hgrow3 A2 B2 O2 X2
      go_wp2_with fail
      go_roundw
      case rel => exact ⟨k + 1, by omega, by go_num, F3.out⟩
      case measure => simp [intOf]; omega
    · obtain rfl : m = k := by omega
      have c1 := (HCI.out _ Ar.out).2
      obtain ⟨g4, c4, rfl, -⟩ := own_shape Or.out (by omega)
      go_wp2_with (at_builtin; refine wpList_append_zeros_own _ rfl (.tmp 36) _ 49 3 rfl w.heap.size 5 i0 (.int .u8 0) 1 .i64 .i64 Tryd.underlying49 Tryd.underlying3 hi hz0 hz1 hz2 rfl rfl g4 (64 * (m + 1)) c4 (U8 (encS (sup1 s) ++ homes m)) rfl Or.out K rfl hk1 (by unfold maxLen; omega) (by omega) Br.out.size ?_)
      intro v5 w5 hown5 hgrow5
      have B5 : Hid (Below w.heap.size w w5) := Br.out.grown hgrow5 Br.out.size (fun k hk => (Or.out.lt k hk).1)
      have O5 : Hid (w5.ownsRow w.heap.size 5 1 v5 (64 * (m + 1) + K) (U8 (newS s))) := by
        show w5.ownsRow _ _ _ _ _ _
        rw [HN.out.1]
        simp only [U8, zs, List.map_append, List.map_replicate] at hown5 ⊢
        exact hown5
      clear hown5 hgrow5 Or Br Ar c1
      obtain ⟨g5, c5, rfl, hc5⟩ := own_shape O5.out (by omega)
      have X5 : Hid (BIn w5 (some ⟨g5, 0, none⟩) (64 * (m + 1) + K) (newS s)) := own_bin O5.out (newS_bytes HC.out)
      go_wp2_with fail
      refine (load_good g5 0 (64 * (m + 1) + K) c5 (cntS s) (newS s) w5 X5.out HN.out.2.1 hc5 (by unfold cntS; omega) HN.out.2.2).mono ?_
      rintro e w6 ⟨p, rfl, d6, b6⟩
      have F6 : Hid (Dsk w6 (fun k => w.heap.size ≤ k) p (cntS s) (newS s) [] ∧ Below w.heap.size w w6) := ⟨d6.mono (fun k _ hk => Nat.le_trans B5.out.size hk), below_then B5.out b6⟩
      clear d6 b6 X5 O5 B5
      go_wp2_with fail
      go_ret2
      exact ⟨p, rfl, F6.out.1, F6.out.2⟩
end Go.Proofs.YtdadpepfpiimgaaDoor
