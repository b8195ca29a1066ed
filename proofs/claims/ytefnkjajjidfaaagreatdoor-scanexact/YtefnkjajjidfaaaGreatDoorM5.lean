/-
  Layer 10: the document's Stands. Layer 10: what the document's Read has in memory while it looks. Layer 10: the document's Read.
-/
import Derived.Test.YtefnkjajjidfaaaGreatDoorEb
import Derived.Test.YtefnkjajjidfaaaGreatDoorM1
import Derived.Test.YtefnkjajjidfaaaGreatDoorM2
import Derived.Deep.Cut
import Derived.Test.YtefnkjajjidfaaaGreatDoorM4
import Derived.Test.YtefnkjajjidfaaaGreatDoorM3
import Derived.Deep.RegionHeld3
namespace Go.Proofs.YtefnkjajjidfaaaGreatDoor
open Go.RowKit


theorem Ref.bytes {w : World} {S : Nat → Prop} {p n : Nat} {d : List Int} {ws : List Wr} (h : Ref w S p n d ws) (k : Nat) : Bytes (newest ws d k) := by
  obtain ⟨g, L, cap, v, vs, hp⟩ := h
  exact newk_bytes hp.db hp.fit _
theorem rrd_at {w : World} {S : Nat → Prop} {p n : Nat} {d : List Int} {ws : List Wr} (h : Ref w S p n d ws) (hk : ws.length ≤ 100000) (i : Int) (h0 : 0 ≤ i) (h1 : i < n) : Calls Tryz.prog 23 #[.pointer (some ⟨p, 0, none⟩), .int .i64 i] w fun e w' => ∃ q c, e = .returned (.tuple #[.slice q 64 c, .int .i64 0]) ∧ BIn w' q 64 (newest ws d i.toNat) ∧ 64 ≤ c ∧ Below w.heap.size w w' := by
  obtain ⟨k, rfl⟩ : ∃ k : Nat, i = k := ⟨i.toNat, by omega⟩
  refine (rread_good h k (by omega) hk).mono ?_
  rintro e w' ⟨v, rfl, ho, hw⟩
  obtain ⟨q, c, rfl, hr, hc⟩ := own_in ho (h.bytes k)
  exact ⟨q, c, rfl, by rw [Int.toNat_natCast]; exact hr, hc.1, hw⟩
set_option maxHeartbeats 8000000 in
set_option maxRecDepth 100000 in
theorem stands_any {w : World} {S : Nat → Prop} {p n : Nat} {d : List Int} {ws : List Wr} (h : Ref w S p n d ws) (hk : ws.length ≤ 100000) (c : Sup) (hc : MayC c) (hn : (n : Int) = 1 + c.bl + c.lc) (x : Int) (h0 : 0 ≤ x) :
    Calls Tryz.prog 25 #[.pointer (some ⟨p, 0, none⟩), .agg (ccells c).toArray, .int .u64 x] w fun e w' => e = .returned (.tuple #[.agg (R.rcells (stS c (newest ws d) x).1).toArray, .bool (stS c (newest ws d) x).2]) ∧ Below w.heap.size w w' := by
  obtain ⟨wa, hwa⟩ : ∃ y, y = w.alloc (.cells (ccells c).toArray 23) := ⟨_, rfl⟩
  obtain ⟨w0, hw0⟩ : ∃ y, y = wa.alloc (.cells (R.rcells R.rec0).toArray 77) := ⟨_, rfl⟩
  have ewa := hwa.symm
  have sa : wa.heap.size = w.heap.size + 1 := by rw [hwa]; simp
  have A1 : Hid (_) := R.alloc37 wa
  rw [← hw0, sa] at A1
  have Ba : Below w.heap.size w wa := by rw [hwa]; exact below_alloc w _
  have B0 : Hid (Below w.heap.size w w0) := by rw [hw0]; exact below_then Ba (below_alloc wa _)
  have C0 : Hid (CAt w0 w.heap.size c) := by
    rw [hw0]
    refine LAt.later ?_ (below_alloc wa _)
    rw [hwa]; exact LAt.new 23 w _
  have V0 : Hid (R.RAt 77 w0 (w.heap.size + 1) R.rec0) := by rw [hw0, ← sa]; exact R.RAt.new 77 wa _
  have HD : Hid (Ref w S p n d ws) := h
  have HK : Hid (ws.length ≤ 100000) := hk
  have hb1 := hc.1
  have hl1 := hc.2.1
  obtain ⟨y, hy⟩ : ∃ y, x % c.lc = y := ⟨_, rfl⟩
  have hy0 : 0 ≤ y := by rw [← hy]; exact Int.emod_nonneg x (by omega)
  have hy1 : y < c.lc := by rw [← hy]; exact Int.emod_lt_of_pos x (by omega)
  have hyt : x.tmod c.lc = y := by rw [Int.tmod_eq_emod_of_nonneg h0]; exact hy
  have HST : Hid (∀ z, R.decS (newest ws d (1 + c.bl + y).toNat) = z → (¬ z.2 = 0 → stS c (newest ws d) x = (R.rec0, false)) ∧ (¬ z.1.pos = x → stS c (newest ws d) x = (R.rec0, false)) ∧ (c.bl ≤ z.1.block → stS c (newest ws d) x = (R.rec0, false)) ∧ (z.2 = 0 → z.1.pos = x → (z.1.kind = 1 → z.1.block < c.bl) → stS c (newest ws d) x = (z.1, true))) := by
    rintro z rfl
    rw [← hy]
    refine ⟨fun a => stS_no fun k => a k.1, fun a => stS_no fun k => a k.2.1, fun a => stS_no fun k => by have := k.2.2; omega, fun a b e => stS_yes ⟨a, b, ?_⟩⟩
    rcases ((R.may_iff _).1 (R.decS_good _ a).1).2 with hi | hi
    · exact e hi.1
    · have := hi.2.2.2.1; omega
  have hw1 : IntKind.u64.wrap c.lc = c.lc := by rw [IntKind.wrap_u64]; omega
  have hwy : IntKind.i64.wrap y = y := by rw [IntKind.wrap_i64]; omega
  have hw3 : IntKind.i64.wrap (1 + c.bl) = 1 + c.bl := by rw [IntKind.wrap_i64]; omega
  have hw10 : IntKind.i64.wrap (1 + c.bl + y) = 1 + c.bl + y := by rw [IntKind.wrap_i64]; omega
  have hl0 : ¬ c.lc = 0 := by omega
  clear hwa hw0 h hk hc Ba
  go_enter Tryz.func25, Tryz.ntmps25
  go_wp2_with ((with_reducible refine at_ops ?_); (refine wpList_alloc_is (by rfl) 77 rfl A1.out ?_); simp only [Act.put, List.setIfInBounds_toArray, List.set_cons_zero, List.set_cons_succ])
  clear A1 ewa
  refine wp_region_noPanic ?_
  refine wp_region_held_drew (S := fun w' => Below w0.heap.size w0 w') (by kernel_rfl) (below_drawn 1) (fun hHeld => ?_)
  have DD : Hid (Below w0.heap.size w0 w0.drew) := hHeld
  generalize w0.drew = wd at *
  refine wpAnyH_take (i := 0) (v := ?va1) (by simp; rfl) (by kernel_rfl) (by kernel_rfl) (by kernel_rfl) (fun _ _ _ h => h) (Or.inl ⟨by rfl, ?ya1⟩) hHeld ?ra1
  case ya1 => intro w hSw; clear hSw; go_simp; with_reducible rfl
  simp only [Act.put, List.setIfInBounds_toArray, List.set_cons_zero, List.set_cons_succ]
  refine wpAnyH_take (i := 1) (v := ?va2) (by simp; rfl) (by kernel_rfl) (by kernel_rfl) (by kernel_rfl) (fun _ _ _ h => h) (Or.inl ⟨by rfl, ?ya2⟩) hHeld ?ra2
  case ya2 => intro w hSw; clear hSw; go_simp; with_reducible rfl
  simp only [Act.put, List.setIfInBounds_toArray, List.set_cons_zero, List.set_cons_succ]
  refine wpAnyH_take (i := 2) (v := ?va3) (by simp; rfl) (by kernel_rfl) (by kernel_rfl) (by kernel_rfl) (fun _ _ _ h => h) (Or.inl ⟨by rfl, ?ya3⟩) hHeld ?ra3
  case ya3 => intro w hSw; have z := CAt.c0 (LAt.later C0.out hSw); clear hSw; go_simp; with_reducible rfl
  simp only [Act.put, List.setIfInBounds_toArray, List.set_cons_zero, List.set_cons_succ]
  refine wpAnyH_take (i := 3) (v := ?va4) (by simp; rfl) (by kernel_rfl) (by kernel_rfl) (by kernel_rfl) (fun _ _ _ h => h) (Or.inl ⟨by rfl, ?ya4⟩) hHeld ?ra4
  case ya4 => intro w hSw; clear hSw; go_simp; with_reducible rfl
  simp only [Act.put, List.setIfInBounds_toArray, List.set_cons_zero, List.set_cons_succ]
  refine wpAnyH_take (i := 4) (v := ?va5) (by simp; rfl) (by kernel_rfl) (by kernel_rfl) (by kernel_rfl) (fun _ _ _ h => h) (Or.inl ⟨by rfl, ?ya5⟩) hHeld ?ra5
  case ya5 => intro w hSw; clear hSw; go_simp; with_reducible rfl
  simp only [Act.put, List.setIfInBounds_toArray, List.set_cons_zero, List.set_cons_succ]
  refine wpAnyH_take (i := 5) (v := ?va6) (by simp; rfl) (by kernel_rfl) (by kernel_rfl) (by kernel_rfl) (fun _ _ _ h => h) (Or.inl ⟨by rfl, ?ya6⟩) hHeld ?ra6
  case ya6 => intro w hSw; clear hSw; go_simp; with_reducible rfl
  simp only [Act.put, List.setIfInBounds_toArray, List.set_cons_zero, List.set_cons_succ]
  refine wpAnyH_take (i := 6) (v := ?va7) (by simp; rfl) (by kernel_rfl) (by kernel_rfl) (by kernel_rfl) (fun _ _ _ h => h) (Or.inl ⟨by rfl, ?ya7⟩) hHeld ?ra7
  case ya7 => intro w hSw; have z := CAt.c1 (LAt.later C0.out hSw); clear hSw; go_simp; with_reducible rfl
  simp only [Act.put, List.setIfInBounds_toArray, List.set_cons_zero, List.set_cons_succ]
  refine wpAnyH_take (i := 7) (v := ?va8) (by simp; rfl) (by kernel_rfl) (by kernel_rfl) (by kernel_rfl) (fun _ _ _ h => h) (Or.inl ⟨by rfl, ?ya8⟩) hHeld ?ra8
  case ya8 => intro w hSw; clear hSw; go_simp; with_reducible rfl
  simp only [Act.put, List.setIfInBounds_toArray, List.set_cons_zero, List.set_cons_succ]
  refine wpAnyH_take (i := 8) (v := ?va9) (by simp; rfl) (by kernel_rfl) (by kernel_rfl) (by kernel_rfl) (fun _ _ _ h => h) (Or.inl ⟨by rfl, ?ya9⟩) hHeld ?ra9
  case ya9 => intro w hSw; clear hSw; go_simp; with_reducible rfl
  simp only [Act.put, List.setIfInBounds_toArray, List.set_cons_zero, List.set_cons_succ]
  refine wpAnyH_take (i := 9) (v := ?va10) (by simp; rfl) (by kernel_rfl) (by kernel_rfl) (by kernel_rfl) (fun _ _ _ h => h) (Or.inl ⟨by rfl, ?ya10⟩) hHeld ?ra10
  case ya10 => intro w hSw; clear hSw; go_simp; with_reducible rfl
  simp only [Act.put, List.setIfInBounds_toArray, List.set_cons_zero, List.set_cons_succ]
  refine wpAnyH_take (i := 10) (v := ?va11) (by simp; rfl) (by kernel_rfl) (by kernel_rfl) (by kernel_rfl) (fun _ _ _ h => h) (Or.inl ⟨by rfl, ?ya11⟩) hHeld ?ra11
  case ya11 => intro w hSw; clear hSw; go_simp; with_reducible rfl
  simp only [Act.put, List.setIfInBounds_toArray, List.set_cons_zero, List.set_cons_succ]
  refine wpAnyH_ready (rs := [11]) (by kernel_rfl) (by simp) ?_
  refine AllReadyH.cons (by simp; rfl) (fun Kc hKc => ?_) AllReadyH.nil
  go_simp
  refine (rrd_at (HD.out.later (below_then B0.out DD.out)) HK.out (1 + c.bl + y) (by omega) (by omega)).mono ?_
  rintro e w2 ⟨q2, c2, rfl, x2, hc2, b2⟩
  have D2 : Hid (Below w0.heap.size w0 w2) := below_then DD.out b2
  have X2 : Hid (BIn w2 q2 64 (newest ws d (1 + c.bl + y).toNat)) := x2
  refine hKc.out _ _ D2.out (fun hHeld => ?_)
  clear hKc Kc x2 b2
  refine wpAnyH_take (i := 12) (v := ?va12) (by simp; rfl) (by kernel_rfl) (by kernel_rfl) (by kernel_rfl) (fun _ _ _ h => h) (Or.inl ⟨by rfl, ?ya12⟩) hHeld ?ra12
  case ya12 => intro w hSw; clear hSw; go_simp; with_reducible rfl
  simp only [Act.put, List.setIfInBounds_toArray, List.set_cons_zero, List.set_cons_succ]
  refine wpAnyH_take (i := 13) (v := ?va13) (by simp; rfl) (by kernel_rfl) (by kernel_rfl) (by kernel_rfl) (fun _ _ _ h => h) (Or.inl ⟨by rfl, ?ya13⟩) hHeld ?ra13
  case ya13 => intro w hSw; clear hSw; go_simp; with_reducible rfl
  simp only [Act.put, List.setIfInBounds_toArray, List.set_cons_zero, List.set_cons_succ]
  refine wpAnyH_take (i := 14) (v := ?va14) (by simp; rfl) (by kernel_rfl) (by kernel_rfl) (by kernel_rfl) (fun _ _ _ h => h) (Or.inl ⟨by rfl, ?ya14⟩) hHeld ?ra14
  case ya14 => intro w hSw; clear hSw; go_simp; with_reducible rfl
  simp only [Act.put, List.setIfInBounds_toArray, List.set_cons_zero, List.set_cons_succ]
  refine wpAnyH_take (i := 15) (v := ?va15) (by simp; rfl) (by kernel_rfl) (by kernel_rfl) (by kernel_rfl) (fun _ _ _ h => h) (Or.inl ⟨by rfl, ?ya15⟩) hHeld ?ra15
  case ya15 => intro w hSw; clear hSw; go_simp; with_reducible rfl
  simp only [Act.put, List.setIfInBounds_toArray, List.set_cons_zero, List.set_cons_succ]
  refine wpAnyH_take (i := 16) (v := ?va16) (by simp; rfl) (by kernel_rfl) (by kernel_rfl) (by kernel_rfl) (fun _ _ _ h => h) (Or.inl ⟨by rfl, ?ya16⟩) hHeld ?ra16
  case ya16 => intro w hSw; clear hSw; go_simp; with_reducible rfl
  simp only [Act.put, List.setIfInBounds_toArray, List.set_cons_zero, List.set_cons_succ]
  clear hHeld
  refine wpAnyH_done (by kernel_rfl) (NoPanic.normal ?_) _
  have B2 : Hid (Below w.heap.size w w2) := below_then B0.out D2.out
  have C2 : Hid (CAt w2 w.heap.size c) := LAt.later C0.out D2.out
  have V2 : Hid (R.RAt 77 w2 (w.heap.size + 1) R.rec0) := R.RAt.later V0.out D2.out
  clear D2 DD C0 V0 B0 hy hyt hw1 hwy hw3 hw10 hl0
  go_wp2_with fail
  refine (R.refDecode_any q2 64 c2 _ w2 X2.out).mono ?_
  rintro e w3 ⟨rfl, b3⟩
  have B3 : Hid (Below w.heap.size w w3) := below_then B2.out b3
  have V3 : Hid (R.RAt 77 w3 (w.heap.size + 1) R.rec0) := R.RAt.later V2.out b3
  have C3 : Hid (CAt w3 w.heap.size c) := LAt.later C2.out b3
  have HW : Hid ((R.decS (newest ws d (1 + c.bl + y).toNat)).1.Wf) := R.decS_wf _ X2.out.byte
  clear b3 X2 B2 V2 C2 HD
  obtain ⟨⟨r, k⟩, hz⟩ : ∃ z, R.decS (newest ws d (1 + c.bl + y).toNat) = z := ⟨_, rfl⟩
  have HZ : Hid (_) := HST.out _ hz
  rw [hz] at HW ⊢
  clear hz HST
  obtain ⟨w4, hw4⟩ : ∃ y, y = w3.alloc (.cells (R.rcells r).toArray 77) := ⟨_, rfl⟩
  have A4 : Hid (_) := R.alloc37 w3
  have T4 : Hid (_) := R.store_new R.size37 w3 r HW.out.len
  rw [← hw4] at T4
  have B34 : Hid (Below w3.heap.size w3 w4) := by rw [hw4]; exact below_alloc w3 _
  have B4 : Hid (Below w.heap.size w w4) := below_then B3.out B34.out
  have V4 : Hid (R.RAt 77 w4 (w.heap.size + 1) R.rec0) := R.RAt.later V3.out B34.out
  have C4 : Hid (CAt w4 w.heap.size c) := LAt.later C3.out B34.out
  have R4 : Hid (R.RAt 77 w4 w3.heap.size r) := by rw [hw4]; exact R.RAt.new 77 w3 r
  have hne : w.heap.size + 1 < w3.heap.size := R.RAt.lt V3.out
  clear hw4 B34 V3 B3 C3
  have U4 : Hid (_) := R.build37 w4 #[] R.rec0 R.fill_none
  have T5 : Hid (_) := R.RAt.store R.size37 (s := R.rec0) V4.out R.rec0_len R.rec0_len
  have F5 : Hid (R.RAt 77 (w4.setRow (w.heap.size + 1) (R.rcells R.rec0).toArray) (w.heap.size + 1) R.rec0) := R.RAt.stored V4.out _
  have G5 : Hid (Below w.heap.size w (w4.setRow (w.heap.size + 1) (R.rcells R.rec0).toArray)) := below_setRow B4.out (Nat.le_succ _) _
  have c0 := CAt.c0 C4.out
  have c00 := R.RAt.c0 R4.out
  have c1 := R.RAt.c1 R4.out
  have c2' := R.RAt.c2 R4.out
  have L6 : Hid (_) := R.RAt.load37 R4.out HW.out.len
  have T6 : Hid (_) := R.RAt.store R.size37 (s := r) V4.out R.rec0_len HW.out.len
  have F6 : Hid (R.RAt 77 (w4.setRow (w.heap.size + 1) (R.rcells r).toArray) (w.heap.size + 1) r) := R.RAt.stored V4.out _
  have G6 : Hid (Below w.heap.size w (w4.setRow (w.heap.size + 1) (R.rcells r).toArray)) := below_setRow B4.out (Nat.le_succ _) _
  by_cases hk : k = 0
  · subst hk
    by_cases hp : r.pos = x
    · have hq : (r.pos != x) = false := by simp [hp]
      by_cases h1 : r.kind = 1
      · have hq1 : (r.kind == 1) = true := by simp [h1]
        by_cases hbk : c.bl ≤ r.block
        · have HR : Hid (_) := HZ.out.2.2.1 hbk
          clear HZ L6 T6 F6 G6
          have hbk' : r.block ≥ c.bl := hbk
          (go_upto_region 3 with ((with_reducible refine at_ops ?_); (first | (refine wpList_alloc_is (by rfl) 77 rfl A4.out ?_) | (refine wpList_store_is (by rfl) 77 rfl rfl rfl T4.out ?_)); simp only [Act.put, List.setIfInBounds_toArray, List.set_cons_zero, List.set_cons_succ])); clear A4 T4; (go_upto_region 4 with fail); (go_wp2_with ((with_reducible refine at_ops ?_); (first | (refine wpList_build_is (vs := []) (by rfl) 77 rfl (by rfl) U4.out ?_) | (refine wpList_store_is (by rfl) 77 rfl rfl rfl T5.out ?_)); simp only [Act.put, List.setIfInBounds_toArray, List.set_cons_zero, List.set_cons_succ]))
          rw [HR.out]
          exact bodyPost_ret (R.results_rec Tryz.results25 _ _ (w.heap.size + 1) 77 R.rec0 _ (by rfl) F5.out R.rec0_len Tryz.underlying77 rfl R.size37) rfl ⟨rfl, G5.out⟩
        · have HR : Hid (_) := HZ.out.2.2.2 rfl hp (fun _ => by show r.block < c.bl; omega)
          clear HZ T5 F5 G5 U4
          (go_upto_region 3 with ((with_reducible refine at_ops ?_); (first | (refine wpList_alloc_is (by rfl) 77 rfl A4.out ?_) | (refine wpList_store_is (by rfl) 77 rfl rfl rfl T4.out ?_)); simp only [Act.put, List.setIfInBounds_toArray, List.set_cons_zero, List.set_cons_succ])); clear A4 T4; (go_upto_region 5 with fail); (go_wp2_with ((with_reducible refine at_ops ?_); (first | (refine wpList_load_is (by rfl) 77 rfl rfl L6.out ?_) | (refine wpList_store_is (by rfl) 77 rfl rfl rfl T6.out ?_)); simp only [Act.put, List.setIfInBounds_toArray, List.set_cons_zero, List.set_cons_succ]))
          rw [HR.out]
          exact bodyPost_ret (R.results_rec Tryz.results25 _ _ (w.heap.size + 1) 77 r _ (by rfl) F6.out HW.out.len Tryz.underlying77 rfl R.size37) rfl ⟨rfl, G6.out⟩
      · have hq1 : (r.kind == 1) = false := by simp [h1]
        have HR : Hid (_) := HZ.out.2.2.2 rfl hp (fun e => absurd e h1)
        clear HZ T5 F5 G5 U4
        (go_upto_region 3 with ((with_reducible refine at_ops ?_); (first | (refine wpList_alloc_is (by rfl) 77 rfl A4.out ?_) | (refine wpList_store_is (by rfl) 77 rfl rfl rfl T4.out ?_)); simp only [Act.put, List.setIfInBounds_toArray, List.set_cons_zero, List.set_cons_succ])); clear A4 T4; (go_upto_region 5 with fail); (go_wp2_with ((with_reducible refine at_ops ?_); (first | (refine wpList_load_is (by rfl) 77 rfl rfl L6.out ?_) | (refine wpList_store_is (by rfl) 77 rfl rfl rfl T6.out ?_)); simp only [Act.put, List.setIfInBounds_toArray, List.set_cons_zero, List.set_cons_succ]))
        rw [HR.out]
        exact bodyPost_ret (R.results_rec Tryz.results25 _ _ (w.heap.size + 1) 77 r _ (by rfl) F6.out HW.out.len Tryz.underlying77 rfl R.size37) rfl ⟨rfl, G6.out⟩
    · have HR : Hid (_) := HZ.out.2.1 hp
      have hq : (r.pos != x) = true := by simp [hp]
      clear HZ L6 T6 F6 G6
      (go_upto_region 3 with ((with_reducible refine at_ops ?_); (first | (refine wpList_alloc_is (by rfl) 77 rfl A4.out ?_) | (refine wpList_store_is (by rfl) 77 rfl rfl rfl T4.out ?_)); simp only [Act.put, List.setIfInBounds_toArray, List.set_cons_zero, List.set_cons_succ])); clear A4 T4; (go_upto_region 4 with fail); (go_wp2_with ((with_reducible refine at_ops ?_); (first | (refine wpList_build_is (vs := []) (by rfl) 77 rfl (by rfl) U4.out ?_) | (refine wpList_store_is (by rfl) 77 rfl rfl rfl T5.out ?_)); simp only [Act.put, List.setIfInBounds_toArray, List.set_cons_zero, List.set_cons_succ]))
      rw [HR.out]
      exact bodyPost_ret (R.results_rec Tryz.results25 _ _ (w.heap.size + 1) 77 R.rec0 _ (by rfl) F5.out R.rec0_len Tryz.underlying77 rfl R.size37) rfl ⟨rfl, G5.out⟩
  · have HR : Hid (_) := HZ.out.1 hk
    have hq : (k != 0) = true := by simp [hk]
    clear HZ L6 T6 F6 G6
    (go_upto_region 3 with ((with_reducible refine at_ops ?_); (first | (refine wpList_alloc_is (by rfl) 77 rfl A4.out ?_) | (refine wpList_store_is (by rfl) 77 rfl rfl rfl T4.out ?_)); simp only [Act.put, List.setIfInBounds_toArray, List.set_cons_zero, List.set_cons_succ])); clear A4 T4; (go_upto_region 4 with fail); (go_wp2_with ((with_reducible refine at_ops ?_); (first | (refine wpList_build_is (vs := []) (by rfl) 77 rfl (by rfl) U4.out ?_) | (refine wpList_store_is (by rfl) 77 rfl rfl rfl T5.out ?_)); simp only [Act.put, List.setIfInBounds_toArray, List.set_cons_zero, List.set_cons_succ]))
    rw [HR.out]
    exact bodyPost_ret (R.results_rec Tryz.results25 _ _ (w.heap.size + 1) 77 R.rec0 _ (by rfl) F5.out R.rec0_len Tryz.underlying77 rfl R.size37) rfl ⟨rfl, G5.out⟩
end Go.Proofs.YtefnkjajjidfaaaGreatDoor
namespace Go.Proofs.YtefnkjajjidfaaaGreatDoor
open Go.RowKit


theorem buildR0 (w : World) : (Instr.build 34 #[]).run Tryz.prog w = .ok (.agg (gcells 0 0 0 (.slice none 0 0)).toArray) w :=
  run_build w 34 _ _ ((built_of 34 _ _ _ placesR zeroR).trans rfl)
theorem decS_70 {bs : List Int} (hl : bs.length = 64) (h : ¬ (decS bs).2 = 0) : (decS bs).2 = 70 := by
  unfold decS at h ⊢
  rw [if_neg (by omega)] at h ⊢
  split
  · rename_i hh
    rw [if_pos hh] at h
    exact absurd rfl h
  · rfl
/-- what stands while the document's Read looks -/
structure RR (w W : World) (c r : Sup) (Bs Bl : Nat) (s : Sc) (v cv : Value) (vs : List Value) : Prop where
  cf : CAt W w.heap.size c
  rs : LAt 34 W (w.heap.size + 1) (gcells 0 0 0 (.slice none 0 0))
  sp : SAt 73 W Bs r
  lg : LAt 34 W Bl (gcells r.tail r.life s.fin v)
  tx : XOwn 80 W w.heap.size v s.txs vs
  im : IOwn W w.heap.size cv s.come
  ne : ∀ u ∈ vs, ∀ g, cv.ownBlock = some g → u.ownBlock ≠ some g
  low : Below w.heap.size w W
  nl : Bl ≠ w.heap.size + 1
  l0 : w.heap.size ≤ Bl
theorem RR.later {w W W' : World} {c r : Sup} {Bs Bl : Nat} {s : Sc} {v cv : Value} {vs : List Value} (h : RR w W c r Bs Bl s v cv vs) (hb : Below W.heap.size W W') : RR w W' c r Bs Bl s v cv vs :=
  ⟨LAt.later h.cf hb, LAt.later h.rs hb, LAt.later h.sp hb, LAt.later h.lg hb, h.tx.later hb, h.im.later hb, h.ne, below_then h.low hb, h.nl, h.l0⟩
theorem vs_lt {e : TypeId} {w : World} {B : Nat} {v : Value} {l : List TX} {vs : List Value} (h : XOwn e w B v l vs) {u : Value} (hu : u ∈ vs) {g : Nat} (hg : u.ownBlock = some g) : g < w.heap.size := by
  obtain ⟨j, hj, rfl⟩ := List.getElem_of_mem hu
  have hj' : j < l.length := by rw [← h.len]; exact hj
  exact ((h.each j l[j] vs[j] (List.getElem?_eq_getElem hj') (List.getElem?_eq_getElem hj)).lt g hg).2
/-- an image more -/
theorem RR.img {w W : World} {c r : Sup} {Bs Bl : Nat} {s : Sc} {v cv : Value} {vs : List Value} (h : RR w W c r Bs Bl s v cv vs) (hcw : ImsWf s.come) (i : Im) (hi : i.Wf) (hl : s.come.length ≤ 64) :
    ∃ q m cp W', (Builtin.append_ #[52, 52] 52 #[cv, .slice (some ⟨W.heap.size, 0, none⟩) 1 1]).run Tryz.prog (W.alloc (.cells (icells i).toArray 57)) = .ok (.slice q m cp) W' ∧ RR w W' c r Bs Bl ⟨s.txs, s.fin, s.come ++ [i]⟩ v (.slice q m cp) vs := by
  have ba := below_alloc W (.cells (icells i).toArray 57)
  have mi : MIn (W.alloc (.cells (icells i).toArray 57)) (some ⟨W.heap.size, 0, none⟩) 1 [i] := ⟨rfl, fun y hy => by rw [List.mem_singleton.1 hy]; exact hi, fun _ => ⟨W.heap.size, 0, rfl, by rw [show IC [i] = icells i by simp [IC]]; exact LAt.range (LAt.new 57 W (icells i))⟩⟩
  have im1 := h.im.later ba
  obtain ⟨q, m, cp, W', hr, ho, hg, hat⟩ := app_imsL (c := 1) im1 hcw mi (by omega) (Nat.le_trans h.low.size ba.size)
  refine ⟨q, m, cp, W', hr, ⟨lat_grown h.cf (by decide) h.im hg, lat_grown h.rs (by decide) h.im hg, lat_grown h.sp (by decide) h.im hg, lat_grown h.lg (by decide) h.im hg, ?_, ho, fun u hu g e => ?_, ?_, h.nl, h.l0⟩⟩
  · refine (h.tx.later ba).kept hg (own_ne h.tx.row h.im (by decide)) fun u hu => ?_
    cases hcv : cv.ownBlock with
    | none => cases hub : u.ownBlock <;> simp
    | some g => exact .inr (h.ne u hu g hcv)
  · rcases hat with hat | hat
    · rw [hat] at e; exact h.ne u hu g e
    · rw [hat] at e
      cases e
      intro e'
      have := vs_lt h.tx hu e'
      simp at this
      omega
  · exact (below_then h.low ba).grown hg (below_then h.low ba).size fun j ej => (im1.lt j ej).1
theorem own_set {W : World} {C : Nat} {ty t : TypeId} {sz n Bl : Nat} {u : Value} {xs cs : List Value} (h : W.ownsRow C ty sz u n xs) (hl : LAt t W Bl cs) (hne : ty ≠ t) (off : Nat) (val : Value) : (W.setCell ⟨Bl, off, none⟩ val).ownsRow C ty sz u n xs := by
  refine ⟨h.1, ?_⟩
  rcases h.2 with hr | ⟨g, cap, cur, e1, e2, e3, e4⟩
  · exact .inl hr
  · have n1 : g ≠ Bl := fun e => by subst e; have := e3.symm.trans hl; simp only [Option.some.injEq, Obj.cells.injEq] at this; exact hne this.2.1
    exact .inr ⟨g, cap, cur, e1, e2, (heap_setCell_other _ ⟨Bl, off, none⟩ g _ n1).trans e3, e4⟩
theorem lat_ne {W : World} {t1 t2 : TypeId} {a b : Nat} {cs ds : List Value} (h : LAt t1 W a cs) (k : LAt t2 W b ds) (hne : t1 ≠ t2) : a ≠ b := fun e => by
  subst e
  have := (show W.heap[a]? = _ from h).symm.trans k
  simp only [Option.some.injEq, Obj.cells.injEq] at this
  exact hne this.2.1
/-- a commit -/
theorem RR.com {w W : World} {c r : Sup} {Bs Bl : Nat} {s : Sc} {v : Value} {vs : List Value} {q : Option Addr} {k m : Nat} (h : RR w W c r Bs Bl s v (.slice q k m) vs) (hcw : ImsWf s.come) (hl : s.txs.length ≤ 64) (p : Int) (hp : u64 p) :
    ∃ q' m' c' V4, (Builtin.append_ #[32, 32] 32 #[v, .slice (some ⟨W.heap.size, 0, none⟩) 1 1]).run Tryz.prog (W.alloc (.cells #[.int .u64 p, .slice q k m] 80)) = .ok (.slice q' m' c') V4 ∧ LAt 34 V4 Bl (gcells r.tail r.life s.fin v) ∧ LAt 34 (V4.setCell ⟨Bl, 3, none⟩ (.slice q' m' c')) Bl (gcells r.tail r.life s.fin (.slice q' m' c')) ∧
      ∃ vs', RR w ((V4.setCell ⟨Bl, 3, none⟩ (.slice q' m' c')).setCell ⟨Bl, 2, none⟩ (.int .u64 (p + 1))) c r Bs Bl ⟨s.txs ++ [⟨p, s.come⟩], p + 1, []⟩ (.slice q' m' c') (.slice none 0 0) vs' := by
  obtain ⟨q', c', V4, hr, lg4, oth4, xo4, bl4, -⟩ := XOwn.app h.tx h.lg h.low.size (by omega) hp hcw h.im
  have lg5 : LAt 34 (V4.setCell ⟨Bl, 3, none⟩ (.slice q' (s.txs.length + 1) c')) Bl (gcells r.tail r.life s.fin (.slice q' (s.txs.length + 1) c')) := LAt.set lg4 3 _
  have cf4 := oth4 (by decide) h.cf
  have sp4 := oth4 (by decide) h.sp
  have rs4 := oth4 (by decide) h.rs
  refine ⟨q', _, c', V4, hr, lg4, lg5, _, ⟨LAt.setO (LAt.setO cf4 3 _ (lat_ne cf4 lg4 (by decide))) 2 _ (lat_ne cf4 lg4 (by decide)), LAt.setO (LAt.setO rs4 3 _ h.nl.symm) 2 _ h.nl.symm, LAt.setO (LAt.setO sp4 3 _ (lat_ne sp4 lg4 (by decide))) 2 _ (lat_ne sp4 lg4 (by decide)), LAt.set lg5 2 _, ⟨xo4.len, own_set xo4.row lg5 (by decide) 2 _, fun j t u a b => own_set (xo4.each j t u a b) lg5 (by decide) 2 _, xo4.wf⟩, World.ownsRow_nil _ _ _ _, (fun u hu g e => by cases e), ?_, h.nl, h.l0⟩⟩
  exact ((h.low.trans bl4).setCell (p := ⟨Bl, 3, none⟩) h.l0 _).setCell (p := ⟨Bl, 2, none⟩) h.l0 _
/-- how it ends: the log is stored into the answer -/
theorem RR.ret {w W : World} {c r : Sup} {Bs Bl : Nat} {s : Sc} {v cv : Value} {vs : List Value} (h : RR w W c r Bs Bl s v cv vs) : ∃ q cp, v = .slice q s.txs.length cp ∧ (Instr.loadAt 34 (.pointer (some ⟨Bl, 0, none⟩))).run Tryz.prog W = .ok (.agg (gcells r.tail r.life s.fin v).toArray) W ∧ (Instr.storeAt 34 (.pointer (some ⟨w.heap.size + 1, 0, none⟩)) (.agg (gcells r.tail r.life s.fin v).toArray)).run Tryz.prog W = .ok () (W.setRow (w.heap.size + 1) (gcells r.tail r.life s.fin v).toArray) ∧
    LAt 34 (W.setRow (w.heap.size + 1) (gcells r.tail r.life s.fin v).toArray) (w.heap.size + 1) (gcells r.tail r.life s.fin v) ∧ XIn (W.setRow (w.heap.size + 1) (gcells r.tail r.life s.fin v).toArray) q s.txs.length s.txs ∧ Below w.heap.size w (W.setRow (w.heap.size + 1) (gcells r.tail r.life s.fin v).toArray) := by
  have x5 : XOwn 80 (W.setRow (w.heap.size + 1) (gcells r.tail r.life s.fin v).toArray) w.heap.size v s.txs vs := by
    refine h.tx.kept (grownBy_setRow W _ _) (.inr (lat_not_row h.rs (by decide) h.tx.row)) fun u hu => ?_
    obtain ⟨j, hj, rfl⟩ := List.getElem_of_mem hu
    have hj' : j < s.txs.length := by rw [← h.tx.len]; exact hj
    exact .inr (lat_not_row h.rs (by decide) (h.tx.each j s.txs[j] vs[j] (List.getElem?_eq_getElem hj') (List.getElem?_eq_getElem hj)))
  obtain ⟨q, cp, e, hx, -, -⟩ := XOwn.in x5
  have ho : v.oneCell' = true := by rw [e]; rfl
  exact ⟨q, cp, e, LAt.loadR h.lg, LAt.store (ds := gcells r.tail r.life s.fin v) h.rs sizeR rfl (all_oneCell_toArray (gcells_ones ho _ _ _)), LAt.stored h.rs _, hx, below_setRow h.low (Nat.le_succ _) _⟩
end Go.Proofs.YtefnkjajjidfaaaGreatDoor
namespace Go.Proofs.YtefnkjajjidfaaaGreatDoor
open Go.RowKit

set_option maxHeartbeats 8000000 in
set_option maxRecDepth 100000 in
theorem refRead_any {w : World} {S : Nat → Prop} {p n : Nat} {d : List Int} {ws : List Wr} (h : Ref w S p n d ws) (hk : ws.length ≤ 100000) (c : Sup) :
    Calls Tryz.prog 6 #[.pointer (some ⟨p, 0, none⟩), .agg (ccells c).toArray] w fun e w' => ∃ q cp, e = .returned (.tuple #[.agg (gcells (rdL c n (newest ws d)).1.tail (rdL c n (newest ws d)).1.life (rdL c n (newest ws d)).1.fin (.slice q (rdL c n (newest ws d)).1.txs.length cp)).toArray, .int .i64 (rdL c n (newest ws d)).2]) ∧ XIn w' q (rdL c n (newest ws d)).1.txs.length (rdL c n (newest ws d)).1.txs ∧ Below w.heap.size w w' := by
  obtain ⟨wa, hwa⟩ : ∃ y, y = w.alloc (.cells (ccells c).toArray 23) := ⟨_, rfl⟩
  obtain ⟨w0, hw0⟩ : ∃ y, y = wa.alloc (.cells (gcells 0 0 0 (.slice none 0 0)).toArray 34) := ⟨_, rfl⟩
  have ewa := hwa.symm
  have sa : wa.heap.size = w.heap.size + 1 := by rw [hwa]; simp
  have A1 : Hid (_) := allocR wa
  rw [← hw0, sa] at A1
  have Ba : Below w.heap.size w wa := by rw [hwa]; exact below_alloc w _
  have B0 : Hid (Below w.heap.size w w0) := by rw [hw0]; exact below_then Ba (below_alloc wa _)
  have C0 : Hid (CAt w0 w.heap.size c) := by
    rw [hw0]
    refine LAt.later ?_ (below_alloc wa _)
    rw [hwa]; exact LAt.new 23 w _
  have V0 : Hid (LAt 34 w0 (w.heap.size + 1) (gcells 0 0 0 (.slice none 0 0))) := by rw [hw0, ← sa]; exact LAt.new 34 wa _
  have HD : Hid (Ref w S p n d ws) := h
  have HK : Hid (ws.length ≤ 100000) := hk
  have HBY : Hid (∀ k, Bytes (newest ws d k)) := h.bytes
  have HL0 : Hid ((newest ws d 0).length = 64) := by
    obtain ⟨g, L, cap, v, vs, hp⟩ := h
    exact newk_length hp.dl hp.fit hp.n1 _
  have L0 : Hid (_) := CAt.load23 C0.out
  clear hwa hw0 Ba h hk
  go_enter Tryz.func6, Tryz.ntmps6
  go_wp2_with ((with_reducible refine at_ops ?_); (first | (refine wpList_alloc_is (by rfl) 34 rfl A1.out ?_) | (refine wpList_load_is (by rfl) 23 rfl rfl L0.out ?_)); simp only [Act.put, List.setIfInBounds_toArray, List.set_cons_zero, List.set_cons_succ])
  clear ewa A1
  refine (refConfig_any c _).mono ?_
  rintro e w1 ⟨rfl, b1⟩
  have B1 : Hid (Below w.heap.size w w1) := below_then B0.out b1
  have C1 : Hid (CAt w1 w.heap.size c) := LAt.later C0.out b1
  have V1 : Hid (LAt 34 w1 (w.heap.size + 1) (gcells 0 0 0 (.slice none 0 0))) := LAt.later V0.out b1
  clear b1 B0 C0 V0 L0
  by_cases hc : MayC c
  · rw [cfg_yes c hc]
    have HC : Hid (MayC c) := hc
    obtain ⟨⟨a1, a2⟩, ⟨a3, a4⟩, -⟩ := hc
    obtain ⟨bl, hbl⟩ : ∃ x, x = c.bl := ⟨_, rfl⟩
    obtain ⟨lc, hlc⟩ : ∃ x, x = c.lc := ⟨_, rfl⟩
    have k1 : IntKind.i64.wrap (1 + bl) = 1 + bl := by rw [IntKind.wrap_i64]; omega
    have k2 : IntKind.i64.wrap (1 + bl + lc) = 1 + bl + lc := by rw [IntKind.wrap_i64]; omega
    have HE : Hid ((¬ (n : Int) = 1 + bl + lc → rdL c n (newest ws d) = (log0, 40)) ∧ ((n : Int) = 1 + bl + lc → (n : Int) = 1 + c.bl + c.lc ∧ ∀ z, decS (newest ws d 0) = z → (¬ z.2 = 0 → rdL c n (newest ws d) = (log0, 70)) ∧ (z.2 = 0 → cfgB z.1 c = false → rdL c n (newest ws d) = (log0, 3)) ∧ (z.2 = 0 → cfgB z.1 c = true → rdL c n (newest ws d) = (scanS c (newest ws d) z.1, 0)))) := by
      rw [hbl, hlc]
      refine ⟨fun h => ?_, fun h => ⟨h, fun z hz => ?_⟩⟩
      · have e := supOf_len (newest ws d) HC.out h
        rw [rdL_no (by rw [e]; decide), e]
      · subst hz
        refine ⟨fun k => ?_, fun k k2 => ?_, fun k k2 => ?_⟩
        · have e := supOf_bad HC.out h k
          rw [rdL_no (by rw [e]; exact k), e]
          show (log0, (decS (newest ws d 0)).2) = _
          rw [decS_70 HL0.out k]
        · have e := supOf_other HC.out h k fun e => (by rw [(cfgB_iff _ _).2 e] at k2; cases k2)
          rw [rdL_no (by rw [e]; decide), e]
        · have e := supOf_ok HC.out h k ((cfgB_iff _ _).1 k2)
          rw [rdL_ok (by rw [e]), e]
    have HC0 : Hid (∀ w', CAt w' w.heap.size c → w'.cell? ⟨w.heap.size, 0, none⟩ = some (.int .i64 bl) ∧ w'.cell? ⟨w.heap.size, 1, none⟩ = some (.int .i64 lc)) := by rw [hbl, hlc]; exact fun w' h => ⟨CAt.c0 h, CAt.c1 h⟩
    have hn4 : 1 + bl + lc ≤ 129 := by omega
    have hn0 : 0 < 1 + bl + lc := by omega
    clear hbl hlc a1 a2 a3 a4
    go_wp2_with fail
    refine wp_region_noPanic ?_
    refine wp_region_held_drew (S := fun w' => Below w1.heap.size w1 w') (by kernel_rfl) (below_drawn 1) (fun hHeld => ?_)
    have D1 : Hid (Below w1.heap.size w1 w1.drew) := hHeld
    generalize w1.drew = wd at *
    refine wpAnyH_take (i := 0) (v := ?va1) (by simp; rfl) (by kernel_rfl) (by kernel_rfl) (by kernel_rfl) (fun _ _ _ h => h) (Or.inl ⟨by rfl, ?ya1⟩) hHeld ?ra1
    case ya1 => intro w hSw; clear hSw; go_simp; with_reducible rfl
    simp only [Act.put, List.setIfInBounds_toArray, List.set_cons_zero, List.set_cons_succ]
    refine wpAnyH_take (i := 2) (v := ?va2) (by simp; rfl) (by kernel_rfl) (by kernel_rfl) (by kernel_rfl) (fun _ _ _ h => h) (Or.inl ⟨by rfl, ?ya2⟩) hHeld ?ra2
    case ya2 => intro w hSw; clear hSw; go_simp; with_reducible rfl
    simp only [Act.put, List.setIfInBounds_toArray, List.set_cons_zero, List.set_cons_succ]
    refine wpAnyH_take (i := 3) (v := ?va3) (by simp; rfl) (by kernel_rfl) (by kernel_rfl) (by kernel_rfl) (fun _ _ _ h => h) (Or.inl ⟨by rfl, ?ya3⟩) hHeld ?ra3
    case ya3 => intro w hSw; have z := (HC0.out _ (LAt.later C1.out hSw)).1; clear hSw; go_simp; with_reducible rfl
    simp only [Act.put, List.setIfInBounds_toArray, List.set_cons_zero, List.set_cons_succ]
    refine wpAnyH_take (i := 4) (v := ?va4) (by simp; rfl) (by kernel_rfl) (by kernel_rfl) (by kernel_rfl) (fun _ _ _ h => h) (Or.inl ⟨by rfl, ?ya4⟩) hHeld ?ra4
    case ya4 => intro w hSw; clear hSw; go_simp; with_reducible rfl
    simp only [Act.put, List.setIfInBounds_toArray, List.set_cons_zero, List.set_cons_succ]
    refine wpAnyH_take (i := 5) (v := ?va5) (by simp; rfl) (by kernel_rfl) (by kernel_rfl) (by kernel_rfl) (fun _ _ _ h => h) (Or.inl ⟨by rfl, ?ya5⟩) hHeld ?ra5
    case ya5 => intro w hSw; clear hSw; go_simp; with_reducible rfl
    simp only [Act.put, List.setIfInBounds_toArray, List.set_cons_zero, List.set_cons_succ]
    refine wpAnyH_take (i := 6) (v := ?va6) (by simp; rfl) (by kernel_rfl) (by kernel_rfl) (by kernel_rfl) (fun _ _ _ h => h) (Or.inl ⟨by rfl, ?ya6⟩) hHeld ?ra6
    case ya6 => intro w hSw; have z := (HC0.out _ (LAt.later C1.out hSw)).2; clear hSw; go_simp; with_reducible rfl
    simp only [Act.put, List.setIfInBounds_toArray, List.set_cons_zero, List.set_cons_succ]
    refine wpAnyH_take (i := 7) (v := ?va7) (by simp; rfl) (by kernel_rfl) (by kernel_rfl) (by kernel_rfl) (fun _ _ _ h => h) (Or.inl ⟨by rfl, ?ya7⟩) hHeld ?ra7
    case ya7 => intro w hSw; clear hSw; go_simp; with_reducible rfl
    simp only [Act.put, List.setIfInBounds_toArray, List.set_cons_zero, List.set_cons_succ]
    refine wpAnyH_ready (rs := [1]) (by kernel_rfl) (by simp) ?_
    refine AllReadyH.cons (by simp; rfl) (fun Kc hKc => ?_) AllReadyH.nil
    go_simp
    refine (rlen_any (HD.out.later (below_then B1.out D1.out))).mono ?_
    rintro e wn ⟨rfl, rfl⟩
    refine hKc.out _ _ D1.out (fun hHeld => ?_)
    clear hKc Kc
    refine wpAnyH_take (i := 8) (v := ?va8) (by simp; rfl) (by kernel_rfl) (by kernel_rfl) (by kernel_rfl) (fun _ _ _ h => h) (Or.inl ⟨by rfl, ?ya8⟩) hHeld ?ra8
    case ya8 => intro w hSw; clear hSw; go_simp; with_reducible rfl
    simp only [Act.put, List.setIfInBounds_toArray, List.set_cons_zero, List.set_cons_succ]
    have B2 : Hid (Below w.heap.size w wd) := below_then B1.out D1.out
    have C2 : Hid (CAt wd w.heap.size c) := LAt.later C1.out D1.out
    have V2 : Hid (LAt 34 wd (w.heap.size + 1) (gcells 0 0 0 (.slice none 0 0))) := LAt.later V1.out D1.out
    clear hHeld D1 HC0 B1 C1 V1
    refine wpAnyH_done (by kernel_rfl) (NoPanic.normal ?_) _
    obtain ⟨w2, hw2⟩ : ∃ y, y = wd := ⟨_, rfl⟩
    rw [← hw2] at B2 C2 V2 ⊢
    clear hw2
    by_cases he : (n : Int) = 1 + bl + lc
    · have hq : ((n : Int) != 1 + bl + lc) = false := by rw [he]; simp
      have HZ0 : Hid (_) := HE.out.2 he
      have hn : 0 < n := by omega
      clear he HE
      go_wp2_with fail
      refine (rrd_at (HD.out.later B2.out) HK.out 0 (Int.le_refl 0) (by omega)).mono ?_
      rintro e w3 ⟨q2, c2, rfl, x2, hc2, b2⟩
      have X3 : Hid (BIn w3 q2 64 (newest ws d 0)) := x2
      have B3 : Hid (Below w.heap.size w w3) := below_then B2.out b2
      have C3 : Hid (CAt w3 w.heap.size c) := LAt.later C2.out b2
      have V3 : Hid (LAt 34 w3 (w.heap.size + 1) (gcells 0 0 0 (.slice none 0 0))) := LAt.later V2.out b2
      clear x2 b2 B2 C2 V2 hq
      go_wp2_with fail
      refine (refDecode_any q2 64 c2 _ w3 X3.out hc2).mono ?_
      rintro e w4 ⟨rfl, b4⟩
      have B4 : Hid (Below w.heap.size w w4) := below_then B3.out b4
      have C4 : Hid (CAt w4 w.heap.size c) := LAt.later C3.out b4
      have V4 : Hid (LAt 34 w4 (w.heap.size + 1) (gcells 0 0 0 (.slice none 0 0))) := LAt.later V3.out b4
      have HRW : Hid ((decS (newest ws d 0)).1.Wf) := decS_wf _ (HBY.out 0)
      have HGO : Hid ((decS (newest ws d 0)).2 = 0 → _) := fun h => (decS_good _ h).1
      clear b4 X3 B3 C3 V3
      obtain ⟨⟨r, k⟩, hz⟩ : ∃ z, decS (newest ws d 0) = z := ⟨_, rfl⟩
      have HZ : Hid (_) := HZ0.out.2 _ hz
      have HNN : Hid (_) := HZ0.out.1
      rw [hz] at HRW HGO ⊢
      clear hz HZ0
      obtain ⟨w5, hw5⟩ : ∃ y, y = w4.alloc (.cells (scells r).toArray 73) := ⟨_, rfl⟩
      have A5 : Hid (_) := alloc26 w4
      have T45 : Hid (_) := store_new26 w4 r
      rw [← hw5] at T45
      have b5 : Below w4.heap.size w4 w5 := by rw [hw5]; exact below_alloc w4 _
      have B5 : Hid (Below w.heap.size w w5) := below_then B4.out b5
      have C5 : Hid (CAt w5 w.heap.size c) := LAt.later C4.out b5
      have V5 : Hid (LAt 34 w5 (w.heap.size + 1) (gcells 0 0 0 (.slice none 0 0))) := LAt.later V4.out b5
      have R5 : Hid (SAt 73 w5 w4.heap.size r) := by rw [hw5]; exact LAt.new 73 w4 _
      clear hw5 b5 B4 C4 V4
      have U5 : Hid (_) := buildR0 w5
      have T5 : Hid (_) := LAt.store (ds := gcells 0 0 0 (.slice none 0 0)) V5.out sizeR rfl (all_oneCell_toArray (gcells_ones rfl 0 0 0))
      have F5 : Hid (LAt 34 (w5.setRow (w.heap.size + 1) (gcells 0 0 0 (.slice none 0 0)).toArray) (w.heap.size + 1) (gcells 0 0 0 (.slice none 0 0))) := LAt.stored V5.out _
      have G5 : Hid (Below w.heap.size w (w5.setRow (w.heap.size + 1) (gcells 0 0 0 (.slice none 0 0)).toArray)) := below_setRow B5.out (Nat.le_succ _) _
      go_upto_region 7 with ((with_reducible refine at_ops ?_); (first | (refine wpList_alloc_is (by rfl) 73 rfl A5.out ?_) | (refine wpList_store_is (by rfl) 73 rfl rfl rfl T45.out ?_)); simp only [Act.put, List.setIfInBounds_toArray, List.set_cons_zero, List.set_cons_succ])
      clear A5 T45
      by_cases hk : k = 0
      · subst hk
        have L5 : Hid (_) := SAt.load23 R5.out
        have M5 : Hid (_) := CAt.load23 C5.out
        have N5 : Hid (_) := neq23 w5 r c
        cases hb : cfgB r c with
        | false =>
          rw [hb] at N5
          have HR : Hid (_) := HZ.out.2.1 rfl hb
          clear HZ
          go_wp2_with ((with_reducible refine at_ops ?_); (first | (refine wpList_load_is (by rfl) 23 rfl rfl L5.out ?_) | (refine wpList_load_is (by rfl) 23 rfl rfl M5.out ?_) | (refine wpList_neq_is (by rfl) 23 rfl rfl rfl eqg23 N5.out ?_) | (refine wpList_build_is (vs := []) (by rfl) 34 rfl (by rfl) U5.out ?_) | (refine wpList_store_is (by rfl) 34 rfl rfl rfl T5.out ?_)); simp only [Act.put, List.setIfInBounds_toArray, List.set_cons_zero, List.set_cons_succ])
          refine bodyPost_ret (results_lat Tryz.results6 _ _ (w.heap.size + 1) 34 _ _ (by rfl) F5.out Tryz.underlying34 rfl sizeR) rfl ?_
          rw [HR.out]
          first | exact ⟨none, ⟨0, rfl⟩, XIn.nil _ _, G5.out⟩ | exact ⟨none, 0, rfl, XIn.nil _ _, G5.out⟩
        | true =>
          rw [hb] at N5
          have HR : Hid (rdL c n (newest ws d) = (scanS c (newest ws d) r, 0)) := HZ.out.2.2 rfl hb
          clear HZ U5 T5 F5 G5 hb
          obtain ⟨w6, hw6⟩ : ∃ y, y = w5.alloc (.cells (gcells r.tail r.life r.tail (.slice none 0 0)).toArray 34) := ⟨_, rfl⟩
          have A11 : Hid (_) := allocR w5
          have U11 : Hid (_) := buildR3 w5 r.tail r.life r.tail
          have T11 : Hid (_) := store_newR w5 r.tail r.life r.tail (v := .slice none 0 0) rfl
          rw [← hw6] at T11
          have b6 : Below w5.heap.size w5 w6 := by rw [hw6]; exact below_alloc w5 _
          have lg6 : LAt 34 w6 w5.heap.size (gcells r.tail r.life r.tail (.slice none 0 0)) := by rw [hw6]; exact LAt.new 34 w5 _
          have RR0 : Hid (RR w w6 c r w4.heap.size w5.heap.size ⟨[], r.tail, []⟩ (.slice none 0 0) (.slice none 0 0) []) :=
            ⟨LAt.later C5.out b6, LAt.later V5.out b6, LAt.later R5.out b6, lg6, XOwn.nil _ _ _, World.ownsRow_nil _ _ _ _, (fun u hu => by cases hu), below_then B5.out b6, (by have := V5.out.lt; omega), B5.out.size⟩
          have q5 := SAt.c5 R5.out
          have q6 := SAt.c6 R5.out
          obtain ⟨Bl, hBl⟩ : ∃ Bl, Bl = w5.heap.size := ⟨_, rfl⟩
          obtain ⟨Bs, hBs⟩ : ∃ Bs, Bs = w4.heap.size := ⟨_, rfl⟩
          have hT0 := HRW.out.tail
          have hT1 := (HGO.out rfl).2.1
          have hl1 := HC.out.2.1
          have hm1 := HC.out.2.2.1
          obtain ⟨LC, hLC⟩ : ∃ LC : Nat, c.lc = LC := ⟨c.lc.toNat, by omega⟩
          have HLC : Hid (c.lc = LC) := hLC
          have hLC2 : LC ≤ 64 := by omega
          obtain ⟨FN, hFN⟩ : ∃ FN, FN = scRun (stS c (newest ws d)) c.mr LC r.tail ⟨[], r.tail, []⟩ := ⟨_, rfl⟩
          have HRn : Hid (rdL c n (newest ws d) = (⟨r.tail, r.life, FN.fin, FN.txs⟩, 0)) := by
            show _ = _
            rw [HR.out, hFN]
            unfold scanS
            rw [hLC, Int.toNat_natCast]
          have HI0 : Hid (∃ s tv vs, RR w w6 c r w4.heap.size w5.heap.size s tv (.slice none 0 0) vs ∧ Sc.Ok c.mr r.tail 0 s ∧ scRun (stS c (newest ws d)) c.mr (LC - 0) (r.tail + ((0 : Nat) : Int)) s = FN) :=
            ⟨_, _, _, RR0.out, Sc.Ok.start (by omega) _, by rw [hFN, Nat.sub_zero]; simp⟩
          clear HR hFN hw6 b6 lg6 RR0 B5 C5 V5 R5 hLC hm1 hBl hBs Bl Bs
          go_wp2_with ((with_reducible refine at_ops ?_); (first | (refine wpList_load_is (by rfl) 23 rfl rfl L5.out ?_) | (refine wpList_load_is (by rfl) 23 rfl rfl M5.out ?_) | (refine wpList_neq_is (by rfl) 23 rfl rfl rfl eqg23 N5.out ?_) | (refine wpList_build_is (vs := [(0, .int .u64 r.tail), (1, .int .u64 r.life), (2, .int .u64 r.tail)]) (by rfl) 34 rfl (by rfl) U11.out ?_) | (refine wpList_alloc_is (by rfl) 34 rfl A11.out ?_) | (refine wpList_store_is (by rfl) 34 rfl rfl rfl T11.out ?_)); simp only [Act.put, List.setIfInBounds_toArray, List.set_cons_zero, List.set_cons_succ])
          clear A11 U11 T11 L5 M5 N5 q5 q6
          have HR := HRn
          clear HRn
          obtain ⟨Bs, hBs⟩ : ∃ Bs, Bs = w4.heap.size := ⟨_, rfl⟩
          obtain ⟨Bl, hBl⟩ : ∃ Bl, Bl = w5.heap.size := ⟨_, rfl⟩
          rw [← hBs, ← hBl] at HI0
          rw [← hBs, ← hBl]
          clear hBs hBl
          go_loopw [11, 12] (fun v i wr => ∃ k : Nat, k ≤ LC ∧ i = .int .i64 k ∧ ∃ qc mc cc, v = .slice qc mc cc ∧ Hid (∃ s tv vs, RR w wr c r Bs Bl s tv (.slice qc mc cc) vs ∧ Sc.Ok c.mr r.tail k s ∧ scRun (stS c (newest ws d)) c.mr (LC - k) (r.tail + (k : Int)) s = FN)) (fun _ i _ => LC - (intOf i).toNat)
          case atStart => exact ⟨0, Nat.zero_le _, rfl, none, 0, 0, rfl, HI0.out⟩
          case round =>
            obtain ⟨k, hk, rfl, qc, mc, cc, rfl, HI⟩ := hrel
            clear HI0
            obtain ⟨wv, hwv⟩ : ∃ wv, wv = wr := ⟨_, rfl⟩
            subst hwv
            obtain ⟨s, tv, vs, rr, hok, hrun⟩ := HI.out
            have RV : Hid (RR w wv c r Bs Bl s tv (.slice qc mc cc) vs) := rr
            have HOK : Hid (Sc.Ok c.mr r.tail k s) := hok
            have z1 : wv.cell? ⟨w.heap.size, 1, none⟩ = some (.int .i64 (LC : Int)) := by rw [← HLC.out]; exact CAt.c1 rr.cf
            clear HI rr hok
            by_cases hlt : k < LC
            · obtain ⟨P, hP⟩ : ∃ P, r.tail + (k : Int) = P := ⟨_, rfl⟩
              have hP0 : 0 ≤ P := by omega
              have hP1 : P ≤ 4611686018427388000 := by omega
              have hwk : IntKind.u64.wrap (k : Int) = (k : Int) := by rw [IntKind.wrap_u64]; omega
              have hwP : IntKind.u64.wrap (r.tail + (k : Int)) = P := by rw [IntKind.wrap_u64]; omega
              have z5 : wv.cell? ⟨Bs, 5, none⟩ = some (.int .u64 r.tail) := SAt.c5 RV.out.sp
              have L17 : Hid (_) := CAt.load23 RV.out.cf
              have HRUN : Hid (scRun (stS c (newest ws d)) c.mr (LC - k) P s = FN) := by rw [← hP]; exact hrun
              have i1 : (k : Int) < (LC : Int) := by omega
              have HPP : Hid (r.tail + (k : Int) = P) := hP
              clear hrun hP
              go_wp2_with ((with_reducible refine at_ops ?_); (refine wpList_load_is (by rfl) 23 rfl rfl L17.out ?_); simp only [Act.put, List.setIfInBounds_toArray, List.set_cons_zero, List.set_cons_succ])
              refine (stands_any (HD.out.later RV.out.low) HK.out c HC.out HNN.out P hP0).mono ?_
              rintro e wx ⟨rfl, bx⟩
              clear z1 z5 L17 hwk hwP i1
              obtain ⟨⟨ro, okb⟩, hst⟩ : ∃ z, stS c (newest ws d) P = z := ⟨_, rfl⟩
              have HW7 : Hid (ro.Wf) := by have := stS_wf (c := c) (p := P) HBY.out; rw [hst] at this; exact this
              have HST : Hid (stS c (newest ws d) P = (ro, okb)) := hst
              have RX0 : Hid (RR w wx c r Bs Bl s tv (.slice qc mc cc) vs) := RV.out.later bx
              rw [hst]
              obtain ⟨wy, hwy⟩ : ∃ y, y = wx.alloc (.cells (R.rcells ro).toArray 77) := ⟨_, rfl⟩
              have A7 : Hid (_) := R.alloc37 wx
              have T7 : Hid (_) := R.store_new R.size37 wx ro HW7.out.len
              rw [← hwy] at T7
              have by7 : Below wx.heap.size wx wy := by rw [hwy]; exact below_alloc wx _
              have RY : Hid (RR w wy c r Bs Bl s tv (.slice qc mc cc) vs) := RX0.out.later by7
              have RX : Hid (R.RAt 77 wy wx.heap.size ro) := by rw [hwy]; exact R.RAt.new 77 wx ro
              obtain ⟨Bo, hBo⟩ : ∃ Bo, Bo = wx.heap.size := ⟨_, rfl⟩
              rw [← hBo] at RX A7 T7
              clear hwy by7 bx hst RV RX0
              go_upto_region 18 with ((with_reducible refine at_ops ?_); (first | (refine wpList_alloc_is (by rfl) 77 rfl A7.out ?_) | (refine wpList_store_is (by rfl) 77 rfl rfl rfl T7.out ?_)); simp only [Act.put, List.setIfInBounds_toArray, List.set_cons_zero, List.set_cons_succ])
              clear A7 T7 hBo
              cases okb with
              | false =>
                have HEND : Hid (s = FN) := by
                  have := HRUN.out
                  rw [scRun_off (by rw [HST.out])] at this
                  exact this
                clear HRUN HST
                obtain ⟨qe, ce, hve, l1, l2, l3, l4, l5⟩ := RY.out.ret
                subst hve
                have LE : Hid (_) := l1
                have TE : Hid (_) := l2
                have FE : Hid (_) := l3
                have XE : Hid (_) := l4
                have GE : Hid (_) := l5
                clear l1 l2 l3 l4 l5
                go_wp2_with ((with_reducible refine at_ops ?_); (first | (refine wpList_load_is (by rfl) 34 rfl rfl LE.out ?_) | (refine wpList_store_is (by rfl) 34 rfl rfl rfl TE.out ?_)); simp only [Act.put, List.setIfInBounds_toArray, List.set_cons_zero, List.set_cons_succ])
                refine bodyPost_ret (results_lat Tryz.results6 _ _ (w.heap.size + 1) 34 _ _ (by rfl) FE.out Tryz.underlying34 rfl sizeR) rfl ?_
                rw [HR.out]
                have hE : FN = s := HEND.out.symm
                subst hE
                first | exact ⟨qe, ⟨ce, rfl⟩, XE.out, GE.out⟩ | exact ⟨qe, ce, rfl, XE.out, GE.out⟩
              | true =>
                obtain ⟨qx, cx, ex, mx, hx1, -⟩ := IOwn.in RY.out.im HOK.out.cw
                cases ex
                have MC : Hid (MIn wy qc s.come.length s.come) := mx
                have hcl := HOK.out.cl
                have htl := HOK.out.tl
                obtain ⟨m, hm⟩ : ∃ m : Nat, s.come.length = m := ⟨_, rfl⟩
                have HM : Hid (s.come.length = m) := hm
                obtain ⟨mr, hmr⟩ : ∃ mr : Int, c.mr = mr := ⟨_, rfl⟩
                have HMR : Hid (c.mr = mr) := hmr
                have hmr2 := HC.out.2.2.1
                rw [hm] at hcl MC RY ⊢
                rw [hmr] at hcl hmr2
                have q0 := R.RAt.c0 RX.out
                have q2' := R.RAt.c2 RX.out
                have q35 := R.RAt.c35 RX.out HW7.out.len
                have HCM : Hid (∀ W, CAt W w.heap.size c → W.cell? ⟨w.heap.size, 2, none⟩ = some (.int .i64 mr)) := fun W h => by rw [← hmr]; exact CAt.c2 h
                clear mx hx1 hm hmr
                by_cases h1 : ro.kind = 1
                · have e1 : (ro.kind == 1) = true := by simp [h1]
                  go_upto_region 22 with fail
                  clear q0 e1
                  by_cases hfull : (m : Int) = mr
                  · have hf1 : ((m : Int) == mr) = true := by simp [hfull]
                    have HEND : Hid (s = FN) := by
                      have := HRUN.out
                      rw [scRun_stop (by rw [HST.out]; exact scStep_no (fun e => by have := e.2.1; rw [HM.out, HMR.out] at this; omega) (fun e => by have := e.1; have : ro.kind = 2 := this; omega))] at this
                      exact this
                    clear HRUN HST
                    refine wp_region_noPanic ?_
                    refine wp_region_held_drew (S := fun w' => Below wy.heap.size wy w') (by kernel_rfl) (below_drawn 1) (fun hHeld => ?_)
                    have DQ : Hid (Below wy.heap.size wy wy.drew) := hHeld
                    generalize wy.drew = wd at *
                    refine wpAnyH_take (i := 0) (v := ?vaqa57) (by simp; rfl) (by kernel_rfl) (by kernel_rfl) (by kernel_rfl) (fun _ _ _ h => h) (Or.inl ⟨by rfl, ?yaqa57⟩) hHeld ?raqa57
                    case yaqa57 => intro w hSw; clear hSw; go_simp; with_reducible rfl
                    simp only [Act.put, List.setIfInBounds_toArray, List.set_cons_zero, List.set_cons_succ]
                    refine wpAnyH_take (i := 1) (v := ?vaqa58) (by simp; rfl) (by kernel_rfl) (by kernel_rfl) (by kernel_rfl) (fun _ _ _ h => h) (Or.inl ⟨by rfl, ?yaqa58⟩) hHeld ?raqa58
                    case yaqa58 => intro w hSw; clear hSw; go_simp; with_reducible rfl
                    simp only [Act.put, List.setIfInBounds_toArray, List.set_cons_zero, List.set_cons_succ]
                    refine wpAnyH_take (i := 2) (v := ?vaqa59) (by simp; rfl) (by kernel_rfl) (by kernel_rfl) (by kernel_rfl) (fun _ _ _ h => h) (Or.inl ⟨by rfl, ?yaqa59⟩) hHeld ?raqa59
                    case yaqa59 => intro w hSw; have z := HCM.out _ (LAt.later RY.out.cf hSw); clear hSw; go_simp; with_reducible rfl
                    simp only [Act.put, List.setIfInBounds_toArray, List.set_cons_zero, List.set_cons_succ]
                    refine wpAnyH_take (i := 3) (v := ?vaqa60) (by simp; rfl) (by kernel_rfl) (by kernel_rfl) (by kernel_rfl) (fun _ _ _ h => h) (Or.inl ⟨by rfl, ?yaqa60⟩) hHeld ?raqa60
                    case yaqa60 => intro w hSw; clear hSw; go_simp; with_reducible rfl
                    simp only [Act.put, List.setIfInBounds_toArray, List.set_cons_zero, List.set_cons_succ]
                    refine wpAnyH_take (i := 4) (v := ?vaqa61) (by simp; rfl) (by kernel_rfl) (by kernel_rfl) (by kernel_rfl) (fun _ _ _ h => h) (Or.inl ⟨by rfl, ?yaqa61⟩) hHeld ?raqa61
                    case yaqa61 => intro w hSw; clear hSw; go_simp; with_reducible rfl
                    simp only [Act.put, List.setIfInBounds_toArray, List.set_cons_zero, List.set_cons_succ]
                    refine wpAnyH_take (i := 5) (v := undef) (by simp; rfl) (by kernel_rfl) (by kernel_rfl) (by kernel_rfl) (fun _ _ _ h => h) (Or.inr ⟨by rfl, rfl⟩) hHeld ?_
                    simp only [Act.put, List.setIfInBounds_toArray, List.set_cons_zero, List.set_cons_succ]
                    refine wpAnyH_take (i := 6) (v := undef) (by simp; rfl) (by kernel_rfl) (by kernel_rfl) (by kernel_rfl) (fun _ _ _ h => h) (Or.inr ⟨by rfl, rfl⟩) hHeld ?_
                    simp only [Act.put, List.setIfInBounds_toArray, List.set_cons_zero, List.set_cons_succ]
                    refine wpAnyH_take (i := 7) (v := undef) (by simp; rfl) (by kernel_rfl) (by kernel_rfl) (by kernel_rfl) (fun _ _ _ h => h) (Or.inr ⟨by rfl, rfl⟩) hHeld ?_
                    simp only [Act.put, List.setIfInBounds_toArray, List.set_cons_zero, List.set_cons_succ]
                    refine wpAnyH_take (i := 8) (v := undef) (by simp; rfl) (by kernel_rfl) (by kernel_rfl) (by kernel_rfl) (fun _ _ _ h => h) (Or.inr ⟨by rfl, rfl⟩) hHeld ?_
                    simp only [Act.put, List.setIfInBounds_toArray, List.set_cons_zero, List.set_cons_succ]
                    refine wpAnyH_take (i := 9) (v := undef) (by simp; rfl) (by kernel_rfl) (by kernel_rfl) (by kernel_rfl) (fun _ _ _ h => h) (Or.inr ⟨by rfl, rfl⟩) hHeld ?_
                    simp only [Act.put, List.setIfInBounds_toArray, List.set_cons_zero, List.set_cons_succ]
                    refine wpAnyH_take (i := 10) (v := undef) (by simp; rfl) (by kernel_rfl) (by kernel_rfl) (by kernel_rfl) (fun _ _ _ h => h) (Or.inr ⟨by rfl, rfl⟩) hHeld ?_
                    simp only [Act.put, List.setIfInBounds_toArray, List.set_cons_zero, List.set_cons_succ]
                    refine wpAnyH_take (i := 11) (v := undef) (by simp; rfl) (by kernel_rfl) (by kernel_rfl) (by kernel_rfl) (fun _ _ _ h => h) (Or.inr ⟨by rfl, rfl⟩) hHeld ?_
                    simp only [Act.put, List.setIfInBounds_toArray, List.set_cons_zero, List.set_cons_succ]
                    refine wpAnyH_take (i := 12) (v := undef) (by simp; rfl) (by kernel_rfl) (by kernel_rfl) (by kernel_rfl) (fun _ _ _ h => h) (Or.inr ⟨by rfl, rfl⟩) hHeld ?_
                    simp only [Act.put, List.setIfInBounds_toArray, List.set_cons_zero, List.set_cons_succ]
                    refine wpAnyH_take (i := 13) (v := undef) (by simp; rfl) (by kernel_rfl) (by kernel_rfl) (by kernel_rfl) (fun _ _ _ h => h) (Or.inr ⟨by rfl, rfl⟩) hHeld ?_
                    simp only [Act.put, List.setIfInBounds_toArray, List.set_cons_zero, List.set_cons_succ]
                    refine wpAnyH_take (i := 14) (v := undef) (by simp; rfl) (by kernel_rfl) (by kernel_rfl) (by kernel_rfl) (fun _ _ _ h => h) (Or.inr ⟨by rfl, rfl⟩) hHeld ?_
                    simp only [Act.put, List.setIfInBounds_toArray, List.set_cons_zero, List.set_cons_succ]
                    refine wpAnyH_take (i := 15) (v := undef) (by simp; rfl) (by kernel_rfl) (by kernel_rfl) (by kernel_rfl) (fun _ _ _ h => h) (Or.inr ⟨by rfl, rfl⟩) hHeld ?_
                    simp only [Act.put, List.setIfInBounds_toArray, List.set_cons_zero, List.set_cons_succ]
                    refine wpAnyH_take (i := 16) (v := undef) (by simp; rfl) (by kernel_rfl) (by kernel_rfl) (by kernel_rfl) (fun _ _ _ h => h) (Or.inr ⟨by rfl, rfl⟩) hHeld ?_
                    simp only [Act.put, List.setIfInBounds_toArray, List.set_cons_zero, List.set_cons_succ]
                    refine wpAnyH_take (i := 17) (v := undef) (by simp; rfl) (by kernel_rfl) (by kernel_rfl) (by kernel_rfl) (fun _ _ _ h => h) (Or.inr ⟨by rfl, rfl⟩) hHeld ?_
                    simp only [Act.put, List.setIfInBounds_toArray, List.set_cons_zero, List.set_cons_succ]
                    refine wpAnyH_take (i := 18) (v := ?vaqa62) (by simp; rfl) (by kernel_rfl) (by kernel_rfl) (by kernel_rfl) (fun _ _ _ h => h) (Or.inl ⟨by rfl, ?yaqa62⟩) hHeld ?raqa62
                    case yaqa62 => intro w hSw; clear hSw; go_simp; with_reducible rfl
                    simp only [Act.put, List.setIfInBounds_toArray, List.set_cons_zero, List.set_cons_succ]
                    clear hHeld
                    refine wpAnyH_done (by kernel_rfl) (NoPanic.normal ?_) _
                    have RQ : Hid (_) := RY.out.later DQ.out
                    clear DQ RY RX MC hf1 q2' q35
                    obtain ⟨qe, ce, hve, l1, l2, l3, l4, l5⟩ := RQ.out.ret
                    subst hve
                    have LE : Hid (_) := l1
                    have TE : Hid (_) := l2
                    have FE : Hid (_) := l3
                    have XE : Hid (_) := l4
                    have GE : Hid (_) := l5
                    clear l1 l2 l3 l4 l5
                    go_wp2_with ((with_reducible refine at_ops ?_); (first | (refine wpList_load_is (by rfl) 34 rfl rfl LE.out ?_) | (refine wpList_store_is (by rfl) 34 rfl rfl rfl TE.out ?_)); simp only [Act.put, List.setIfInBounds_toArray, List.set_cons_zero, List.set_cons_succ])
                    refine bodyPost_ret (results_lat Tryz.results6 _ _ (w.heap.size + 1) 34 _ _ (by rfl) FE.out Tryz.underlying34 rfl sizeR) rfl ?_
                    rw [HR.out]
                    have hE : FN = s := HEND.out.symm
                    subst hE
                    first | exact ⟨qe, ⟨ce, rfl⟩, XE.out, GE.out⟩ | exact ⟨qe, ce, rfl, XE.out, GE.out⟩
                  · have hf1 : ((m : Int) == mr) = false := by simp [hfull]
                    by_cases hm0 : m = 0
                    · have hz : ¬ (0 : Int) < (m : Int) := by omega
                      have HFO : Hid (Folls s.come ro.block c.mr) := ⟨by rw [HM.out, HMR.out]; omega, .inl (by rw [HM.out]; exact hm0)⟩
                      clear hz
                      subst hm0
                      have hf2 : ((0 : Int) == mr) = false := by rw [beq_eq_false_iff_ne]; omega
                      refine wp_region_noPanic ?_
                      refine wp_region_held_drew (S := fun w' => Below wy.heap.size wy w') (by kernel_rfl) (below_drawn 1) (fun hHeld => ?_)
                      have DQ : Hid (Below wy.heap.size wy wy.drew) := hHeld
                      generalize wy.drew = wd at *
                      refine wpAnyH_take (i := 0) (v := ?vaqb9) (by simp; rfl) (by kernel_rfl) (by kernel_rfl) (by kernel_rfl) (fun _ _ _ h => h) (Or.inl ⟨by rfl, ?yaqb9⟩) hHeld ?raqb9
                      case yaqb9 => intro w hSw; clear hSw; go_simp; with_reducible rfl
                      simp only [Act.put, List.setIfInBounds_toArray, List.set_cons_zero, List.set_cons_succ]
                      refine wpAnyH_take (i := 1) (v := ?vaqb10) (by simp; rfl) (by kernel_rfl) (by kernel_rfl) (by kernel_rfl) (fun _ _ _ h => h) (Or.inl ⟨by rfl, ?yaqb10⟩) hHeld ?raqb10
                      case yaqb10 => intro w hSw; clear hSw; go_simp; with_reducible rfl
                      simp only [Act.put, List.setIfInBounds_toArray, List.set_cons_zero, List.set_cons_succ]
                      refine wpAnyH_take (i := 2) (v := ?vaqb11) (by simp; rfl) (by kernel_rfl) (by kernel_rfl) (by kernel_rfl) (fun _ _ _ h => h) (Or.inl ⟨by rfl, ?yaqb11⟩) hHeld ?raqb11
                      case yaqb11 => intro w hSw; have z := HCM.out _ (LAt.later RY.out.cf hSw); clear hSw; go_simp; with_reducible rfl
                      simp only [Act.put, List.setIfInBounds_toArray, List.set_cons_zero, List.set_cons_succ]
                      refine wpAnyH_take (i := 3) (v := ?vaqb12) (by simp; rfl) (by kernel_rfl) (by kernel_rfl) (by kernel_rfl) (fun _ _ _ h => h) (Or.inl ⟨by rfl, ?yaqb12⟩) hHeld ?raqb12
                      case yaqb12 => intro w hSw; clear hSw; go_simp; with_reducible rfl
                      simp only [Act.put, List.setIfInBounds_toArray, List.set_cons_zero, List.set_cons_succ]
                      refine wpAnyH_take (i := 4) (v := ?vaqb13) (by simp; rfl) (by kernel_rfl) (by kernel_rfl) (by kernel_rfl) (fun _ _ _ h => h) (Or.inl ⟨by rfl, ?yaqb13⟩) hHeld ?raqb13
                      case yaqb13 => intro w hSw; clear hSw; go_simp; with_reducible rfl
                      simp only [Act.put, List.setIfInBounds_toArray, List.set_cons_zero, List.set_cons_succ]
                      refine wpAnyH_take (i := 5) (v := ?vaqb14) (by simp; rfl) (by kernel_rfl) (by kernel_rfl) (by kernel_rfl) (fun _ _ _ h => h) (Or.inl ⟨by rfl, ?yaqb14⟩) hHeld ?raqb14
                      case yaqb14 => intro w hSw; clear hSw; go_simp; with_reducible rfl
                      simp only [Act.put, List.setIfInBounds_toArray, List.set_cons_zero, List.set_cons_succ]
                      refine wpAnyH_take (i := 6) (v := ?vaqb15) (by simp; rfl) (by kernel_rfl) (by kernel_rfl) (by kernel_rfl) (fun _ _ _ h => h) (Or.inl ⟨by rfl, ?yaqb15⟩) hHeld ?raqb15
                      case yaqb15 => intro w hSw; clear hSw; go_simp; with_reducible rfl
                      simp only [Act.put, List.setIfInBounds_toArray, List.set_cons_zero, List.set_cons_succ]
                      refine wpAnyH_take (i := 7) (v := ?vaqb16) (by simp; rfl) (by kernel_rfl) (by kernel_rfl) (by kernel_rfl) (fun _ _ _ h => h) (Or.inl ⟨by rfl, ?yaqb16⟩) hHeld ?raqb16
                      case yaqb16 => intro w hSw; clear hSw; go_simp; with_reducible rfl
                      simp only [Act.put, List.setIfInBounds_toArray, List.set_cons_zero, List.set_cons_succ]
                      refine wpAnyH_take (i := 8) (v := undef) (by simp; rfl) (by kernel_rfl) (by kernel_rfl) (by kernel_rfl) (fun _ _ _ h => h) (Or.inr ⟨by rfl, rfl⟩) hHeld ?_
                      simp only [Act.put, List.setIfInBounds_toArray, List.set_cons_zero, List.set_cons_succ]
                      refine wpAnyH_take (i := 9) (v := undef) (by simp; rfl) (by kernel_rfl) (by kernel_rfl) (by kernel_rfl) (fun _ _ _ h => h) (Or.inr ⟨by rfl, rfl⟩) hHeld ?_
                      simp only [Act.put, List.setIfInBounds_toArray, List.set_cons_zero, List.set_cons_succ]
                      refine wpAnyH_take (i := 10) (v := undef) (by simp; rfl) (by kernel_rfl) (by kernel_rfl) (by kernel_rfl) (fun _ _ _ h => h) (Or.inr ⟨by rfl, rfl⟩) hHeld ?_
                      simp only [Act.put, List.setIfInBounds_toArray, List.set_cons_zero, List.set_cons_succ]
                      refine wpAnyH_take (i := 11) (v := undef) (by simp; rfl) (by kernel_rfl) (by kernel_rfl) (by kernel_rfl) (fun _ _ _ h => h) (Or.inr ⟨by rfl, rfl⟩) hHeld ?_
                      simp only [Act.put, List.setIfInBounds_toArray, List.set_cons_zero, List.set_cons_succ]
                      refine wpAnyH_take (i := 12) (v := undef) (by simp; rfl) (by kernel_rfl) (by kernel_rfl) (by kernel_rfl) (fun _ _ _ h => h) (Or.inr ⟨by rfl, rfl⟩) hHeld ?_
                      simp only [Act.put, List.setIfInBounds_toArray, List.set_cons_zero, List.set_cons_succ]
                      refine wpAnyH_take (i := 13) (v := undef) (by simp; rfl) (by kernel_rfl) (by kernel_rfl) (by kernel_rfl) (fun _ _ _ h => h) (Or.inr ⟨by rfl, rfl⟩) hHeld ?_
                      simp only [Act.put, List.setIfInBounds_toArray, List.set_cons_zero, List.set_cons_succ]
                      refine wpAnyH_take (i := 14) (v := undef) (by simp; rfl) (by kernel_rfl) (by kernel_rfl) (by kernel_rfl) (fun _ _ _ h => h) (Or.inr ⟨by rfl, rfl⟩) hHeld ?_
                      simp only [Act.put, List.setIfInBounds_toArray, List.set_cons_zero, List.set_cons_succ]
                      refine wpAnyH_take (i := 15) (v := undef) (by simp; rfl) (by kernel_rfl) (by kernel_rfl) (by kernel_rfl) (fun _ _ _ h => h) (Or.inr ⟨by rfl, rfl⟩) hHeld ?_
                      simp only [Act.put, List.setIfInBounds_toArray, List.set_cons_zero, List.set_cons_succ]
                      refine wpAnyH_take (i := 16) (v := undef) (by simp; rfl) (by kernel_rfl) (by kernel_rfl) (by kernel_rfl) (fun _ _ _ h => h) (Or.inr ⟨by rfl, rfl⟩) hHeld ?_
                      simp only [Act.put, List.setIfInBounds_toArray, List.set_cons_zero, List.set_cons_succ]
                      refine wpAnyH_take (i := 17) (v := ?vaqb17) (by simp; rfl) (by kernel_rfl) (by kernel_rfl) (by kernel_rfl) (fun _ _ _ h => h) (Or.inl ⟨by rfl, ?yaqb17⟩) hHeld ?raqb17
                      case yaqb17 => intro w hSw; clear hSw; go_simp; with_reducible rfl
                      simp only [Act.put, List.setIfInBounds_toArray, List.set_cons_zero, List.set_cons_succ]
                      refine wpAnyH_take (i := 18) (v := ?vaqb18) (by simp; rfl) (by kernel_rfl) (by kernel_rfl) (by kernel_rfl) (fun _ _ _ h => h) (Or.inl ⟨by rfl, ?yaqb18⟩) hHeld ?raqb18
                      case yaqb18 => intro w hSw; clear hSw; go_simp; with_reducible rfl
                      simp only [Act.put, List.setIfInBounds_toArray, List.set_cons_zero, List.set_cons_succ]
                      clear hHeld
                      refine wpAnyH_done (by kernel_rfl) (NoPanic.normal ?_) _
                      have RQ : Hid (_) := RY.out.later DQ.out
                      have RZ : Hid (R.RAt 77 wd Bo ro) := R.RAt.later RX.out DQ.out
                      have HIW : Hid ((⟨ro.block, ro.val⟩ : Im).Wf) := ⟨⟨HW7.out.b0, HW7.out.b1⟩, HW7.out.len, HW7.out.byte⟩
                      obtain ⟨q9, m9, c9, W9, hr9, rr9⟩ := RQ.out.img HOK.out.cw ⟨ro.block, ro.val⟩ HIW.out (by rw [HM.out]; omega)
                      have y2 := R.RAt.c2 RZ.out
                      have L24 : Hid (_) := R.RAt.load24 RZ.out HW7.out.len
                      have U24 : Hid (_) := buildI wd ro.block ro.val HW7.out.len
                      have S24 : Hid (_) := build_im wd ⟨ro.block, ro.val⟩ HW7.out.len
                      have A24 : Hid (_) := hr9
                      have F24 : Hid (∃ s tv vs, RR w W9 c r Bs Bl s tv (.slice q9 m9 c9) vs ∧ Sc.Ok c.mr r.tail (k + 1) s ∧ scRun (stS c (newest ws d)) c.mr (LC - (k + 1)) (r.tail + ((k + 1 : Nat) : Int)) s = FN) := by
                        have hfo : ro.kind = 1 ∧ Folls s.come ro.block c.mr := ⟨h1, HFO.out⟩
                        have es := scStep_img (s := s) (p := P) hfo
                        refine ⟨_, _, _, rr9, HOK.out.step (by rw [HMR.out]; omega) (by omega) (by omega) HPP.out.symm HW7.out es, ?_⟩
                        have := HRUN.out
                        rw [show LC - k = LC - (k + 1) + 1 by omega, scRun_go (by rw [HST.out]) (by rw [HST.out]; exact es)] at this
                        rw [show r.tail + ((k + 1 : Nat) : Int) = P + 1 by have := HPP.out; omega]
                        exact this
                      clear DQ RY RX MC hr9 rr9 RQ RZ HRUN HST
                      go_wp2_with ((with_reducible refine at_ops ?_); (first | (refine wpList_load_is (by rfl) 55 rfl rfl L24.out ?_) | (refine wpList_build_is (vs := [(0, .int .i64 ro.block), (1, .agg (U8 ro.val).toArray)]) (by rfl) 57 rfl (by rfl) U24.out ?_) | (refine wpList_slice_is (u := .agg (icells ⟨ro.block, ro.val⟩).toArray) (by rfl) 52 rfl rfl S24.out ?_) | (refine wpList_append_is (u1 := .slice qc 0 cc) (u2 := .slice (some ⟨wd.heap.size, 0, none⟩) 1 1) (by rfl) rfl rfl rfl rfl A24.out ?_)); simp only [Act.put, List.setIfInBounds_toArray, List.set_cons_zero, List.set_cons_succ])
                      clear y2 L24 U24 S24 A24
                      go_wp2_with fail
                      go_roundw
                      case rel => exact ⟨k + 1, by omega, by go_num, q9, m9, c9, rfl, F24.out⟩
                      case measure => simp [intOf]; omega
                    · obtain ⟨m', rfl⟩ : ∃ m', m = m' + 1 := ⟨m - 1, by omega⟩
                      obtain ⟨il, hlast⟩ : ∃ il, s.come[m']? = some il := ⟨_, List.getElem?_eq_getElem (by rw [HM.out]; omega)⟩
                      have hlb : lastB s.come = il.b := by
                        unfold lastB
                        rw [List.getD, HM.out, Nat.add_sub_cancel, hlast]; rfl
                      obtain ⟨g5, o5, rfl, -⟩ := MC.out.cells (by omega)
                      have hz : (0 : Int) < ((m' + 1 : Nat) : Int) := by omega
                      have hs1 : ((m' + 1 : Nat) : Int) - 1 = (m' : Int) := by omega
                      have hs2 : (m' : Int) + 1 - 1 = (m' : Int) := by omega
                      have hf3 : ((m' : Int) + 1 == mr) = false := by rw [beq_eq_false_iff_ne]; omega
                      have hws : IntKind.i64.wrap (m' : Int) = (m' : Int) := by rw [IntKind.wrap_i64]; omega
                      have hws2 : IntKind.i64.wrap ((m' : Int) + 1 - 1) = (m' : Int) := by rw [IntKind.wrap_i64]; omega
                      have j1 : (m' : Int) < (m' : Int) + 1 := by omega
                      have j0 : (0 : Int) ≤ (m' : Int) := by omega
                      by_cases hle : ro.block ≤ il.b
                      · have hle' : decide (ro.block ≤ il.b) = true := by simp [hle]
                        have HEND : Hid (s = FN) := by
                          have := HRUN.out
                          rw [scRun_stop (by rw [HST.out]; exact scStep_no (fun e => by rcases e.2.2 with e | e; (· rw [HM.out] at e; omega); (· rw [hlb] at e; have e' : il.b < ro.block := e; omega)) (fun e => by have : ro.kind = 2 := e.1; omega))] at this
                          exact this
                        clear HRUN HST
                        refine wp_region_noPanic ?_
                        refine wp_region_held_drew (S := fun w' => Below wy.heap.size wy w') (by kernel_rfl) (below_drawn 1) (fun hHeld => ?_)
                        have DQ : Hid (Below wy.heap.size wy wy.drew) := hHeld
                        generalize wy.drew = wd at *
                        refine wpAnyH_take (i := 0) (v := ?vaqc19) (by simp; rfl) (by kernel_rfl) (by kernel_rfl) (by kernel_rfl) (fun _ _ _ h => h) (Or.inl ⟨by rfl, ?yaqc19⟩) hHeld ?raqc19
                        case yaqc19 => intro w hSw; clear hSw; go_simp; with_reducible rfl
                        simp only [Act.put, List.setIfInBounds_toArray, List.set_cons_zero, List.set_cons_succ]
                        refine wpAnyH_take (i := 1) (v := ?vaqc20) (by simp; rfl) (by kernel_rfl) (by kernel_rfl) (by kernel_rfl) (fun _ _ _ h => h) (Or.inl ⟨by rfl, ?yaqc20⟩) hHeld ?raqc20
                        case yaqc20 => intro w hSw; clear hSw; go_simp; with_reducible rfl
                        simp only [Act.put, List.setIfInBounds_toArray, List.set_cons_zero, List.set_cons_succ]
                        refine wpAnyH_take (i := 2) (v := ?vaqc21) (by simp; rfl) (by kernel_rfl) (by kernel_rfl) (by kernel_rfl) (fun _ _ _ h => h) (Or.inl ⟨by rfl, ?yaqc21⟩) hHeld ?raqc21
                        case yaqc21 => intro w hSw; have z := HCM.out _ (LAt.later RY.out.cf hSw); clear hSw; go_simp; with_reducible rfl
                        simp only [Act.put, List.setIfInBounds_toArray, List.set_cons_zero, List.set_cons_succ]
                        refine wpAnyH_take (i := 3) (v := ?vaqc22) (by simp; rfl) (by kernel_rfl) (by kernel_rfl) (by kernel_rfl) (fun _ _ _ h => h) (Or.inl ⟨by rfl, ?yaqc22⟩) hHeld ?raqc22
                        case yaqc22 => intro w hSw; clear hSw; go_simp; with_reducible rfl
                        simp only [Act.put, List.setIfInBounds_toArray, List.set_cons_zero, List.set_cons_succ]
                        refine wpAnyH_take (i := 4) (v := ?vaqc23) (by simp; rfl) (by kernel_rfl) (by kernel_rfl) (by kernel_rfl) (fun _ _ _ h => h) (Or.inl ⟨by rfl, ?yaqc23⟩) hHeld ?raqc23
                        case yaqc23 => intro w hSw; clear hSw; go_simp; with_reducible rfl
                        simp only [Act.put, List.setIfInBounds_toArray, List.set_cons_zero, List.set_cons_succ]
                        refine wpAnyH_take (i := 5) (v := ?vaqc24) (by simp; rfl) (by kernel_rfl) (by kernel_rfl) (by kernel_rfl) (fun _ _ _ h => h) (Or.inl ⟨by rfl, ?yaqc24⟩) hHeld ?raqc24
                        case yaqc24 => intro w hSw; clear hSw; go_simp; with_reducible rfl
                        simp only [Act.put, List.setIfInBounds_toArray, List.set_cons_zero, List.set_cons_succ]
                        refine wpAnyH_take (i := 6) (v := ?vaqc25) (by simp; rfl) (by kernel_rfl) (by kernel_rfl) (by kernel_rfl) (fun _ _ _ h => h) (Or.inl ⟨by rfl, ?yaqc25⟩) hHeld ?raqc25
                        case yaqc25 => intro w hSw; clear hSw; go_simp; with_reducible rfl
                        simp only [Act.put, List.setIfInBounds_toArray, List.set_cons_zero, List.set_cons_succ]
                        refine wpAnyH_take (i := 7) (v := ?vaqc26) (by simp; rfl) (by kernel_rfl) (by kernel_rfl) (by kernel_rfl) (fun _ _ _ h => h) (Or.inl ⟨by rfl, ?yaqc26⟩) hHeld ?raqc26
                        case yaqc26 => intro w hSw; clear hSw; go_simp; with_reducible rfl
                        simp only [Act.put, List.setIfInBounds_toArray, List.set_cons_zero, List.set_cons_succ]
                        refine wpAnyH_take (i := 8) (v := ?vaqc27) (by simp; rfl) (by kernel_rfl) (by kernel_rfl) (by kernel_rfl) (fun _ _ _ h => h) (Or.inl ⟨by rfl, ?yaqc27⟩) hHeld ?raqc27
                        case yaqc27 => intro w hSw; clear hSw; go_simp; with_reducible rfl
                        simp only [Act.put, List.setIfInBounds_toArray, List.set_cons_zero, List.set_cons_succ]
                        refine wpAnyH_take (i := 9) (v := ?vaqc28) (by simp; rfl) (by kernel_rfl) (by kernel_rfl) (by kernel_rfl) (fun _ _ _ h => h) (Or.inl ⟨by rfl, ?yaqc28⟩) hHeld ?raqc28
                        case yaqc28 => intro w hSw; have z := R.RAt.c2 (R.RAt.later RX.out hSw); clear hSw; go_simp; with_reducible rfl
                        simp only [Act.put, List.setIfInBounds_toArray, List.set_cons_zero, List.set_cons_succ]
                        refine wpAnyH_take (i := 10) (v := ?vaqc29) (by simp; rfl) (by kernel_rfl) (by kernel_rfl) (by kernel_rfl) (fun _ _ _ h => h) (Or.inl ⟨by rfl, ?yaqc29⟩) hHeld ?raqc29
                        case yaqc29 => intro w hSw; clear hSw; go_simp; with_reducible rfl
                        simp only [Act.put, List.setIfInBounds_toArray, List.set_cons_zero, List.set_cons_succ]
                        refine wpAnyH_take (i := 11) (v := ?vaqc30) (by simp; rfl) (by kernel_rfl) (by kernel_rfl) (by kernel_rfl) (fun _ _ _ h => h) (Or.inl ⟨by rfl, ?yaqc30⟩) hHeld ?raqc30
                        case yaqc30 => intro w hSw; clear hSw; go_simp; with_reducible rfl
                        simp only [Act.put, List.setIfInBounds_toArray, List.set_cons_zero, List.set_cons_succ]
                        refine wpAnyH_take (i := 12) (v := ?vaqc31) (by simp; rfl) (by kernel_rfl) (by kernel_rfl) (by kernel_rfl) (fun _ _ _ h => h) (Or.inl ⟨by rfl, ?yaqc31⟩) hHeld ?raqc31
                        case yaqc31 => intro w hSw; clear hSw; go_simp; with_reducible rfl
                        simp only [Act.put, List.setIfInBounds_toArray, List.set_cons_zero, List.set_cons_succ]
                        refine wpAnyH_take (i := 13) (v := ?vaqc32) (by simp; rfl) (by kernel_rfl) (by kernel_rfl) (by kernel_rfl) (fun _ _ _ h => h) (Or.inl ⟨by rfl, ?yaqc32⟩) hHeld ?raqc32
                        case yaqc32 => intro w hSw; clear hSw; go_simp; with_reducible rfl
                        simp only [Act.put, List.setIfInBounds_toArray, List.set_cons_zero, List.set_cons_succ]
                        refine wpAnyH_take (i := 14) (v := ?vaqc33) (by simp; rfl) (by kernel_rfl) (by kernel_rfl) (by kernel_rfl) (fun _ _ _ h => h) (Or.inl ⟨by rfl, ?yaqc33⟩) hHeld ?raqc33
                        case yaqc33 => intro w hSw; clear hSw; go_simp; with_reducible rfl
                        simp only [Act.put, List.setIfInBounds_toArray, List.set_cons_zero, List.set_cons_succ]
                        refine wpAnyH_take (i := 15) (v := ?vaqc34) (by simp; rfl) (by kernel_rfl) (by kernel_rfl) (by kernel_rfl) (fun _ _ _ h => h) (Or.inl ⟨by rfl, ?yaqc34⟩) hHeld ?raqc34
                        case yaqc34 => intro w hSw; have z := (MC.out.later hSw).c0 hlast; clear hSw; go_simp; with_reducible rfl
                        simp only [Act.put, List.setIfInBounds_toArray, List.set_cons_zero, List.set_cons_succ]
                        refine wpAnyH_take (i := 16) (v := ?vaqc35) (by simp; rfl) (by kernel_rfl) (by kernel_rfl) (by kernel_rfl) (fun _ _ _ h => h) (Or.inl ⟨by rfl, ?yaqc35⟩) hHeld ?raqc35
                        case yaqc35 => intro w hSw; clear hSw; go_simp; with_reducible rfl
                        simp only [Act.put, List.setIfInBounds_toArray, List.set_cons_zero, List.set_cons_succ]
                        refine wpAnyH_take (i := 17) (v := ?vaqc36) (by simp; rfl) (by kernel_rfl) (by kernel_rfl) (by kernel_rfl) (fun _ _ _ h => h) (Or.inl ⟨by rfl, ?yaqc36⟩) hHeld ?raqc36
                        case yaqc36 => intro w hSw; clear hSw; go_simp; with_reducible rfl
                        simp only [Act.put, List.setIfInBounds_toArray, List.set_cons_zero, List.set_cons_succ]
                        refine wpAnyH_take (i := 18) (v := ?vaqc37) (by simp; rfl) (by kernel_rfl) (by kernel_rfl) (by kernel_rfl) (fun _ _ _ h => h) (Or.inl ⟨by rfl, ?yaqc37⟩) hHeld ?raqc37
                        case yaqc37 => intro w hSw; clear hSw; go_simp; with_reducible rfl
                        simp only [Act.put, List.setIfInBounds_toArray, List.set_cons_zero, List.set_cons_succ]
                        clear hHeld
                        refine wpAnyH_done (by kernel_rfl) (NoPanic.normal ?_) _
                        have RQ : Hid (_) := RY.out.later DQ.out
                        clear DQ RY RX MC hf1 q2' q35
                        obtain ⟨qe, ce, hve, l1, l2, l3, l4, l5⟩ := RQ.out.ret
                        subst hve
                        have LE : Hid (_) := l1
                        have TE : Hid (_) := l2
                        have FE : Hid (_) := l3
                        have XE : Hid (_) := l4
                        have GE : Hid (_) := l5
                        clear l1 l2 l3 l4 l5
                        go_wp2_with ((with_reducible refine at_ops ?_); (first | (refine wpList_load_is (by rfl) 34 rfl rfl LE.out ?_) | (refine wpList_store_is (by rfl) 34 rfl rfl rfl TE.out ?_)); simp only [Act.put, List.setIfInBounds_toArray, List.set_cons_zero, List.set_cons_succ])
                        refine bodyPost_ret (results_lat Tryz.results6 _ _ (w.heap.size + 1) 34 _ _ (by rfl) FE.out Tryz.underlying34 rfl sizeR) rfl ?_
                        rw [HR.out]
                        have hE : FN = s := HEND.out.symm
                        subst hE
                        first | exact ⟨qe, ⟨ce, rfl⟩, XE.out, GE.out⟩ | exact ⟨qe, ce, rfl, XE.out, GE.out⟩
                      · have hle' : decide (ro.block ≤ il.b) = false := by simp [hle]
                        have HFO : Hid (Folls s.come ro.block c.mr) := ⟨by rw [HM.out, HMR.out]; omega, .inr (by rw [hlb]; omega)⟩
                        refine wp_region_noPanic ?_
                        refine wp_region_held_drew (S := fun w' => Below wy.heap.size wy w') (by kernel_rfl) (below_drawn 1) (fun hHeld => ?_)
                        have DQ : Hid (Below wy.heap.size wy wy.drew) := hHeld
                        generalize wy.drew = wd at *
                        refine wpAnyH_take (i := 0) (v := ?vaqd38) (by simp; rfl) (by kernel_rfl) (by kernel_rfl) (by kernel_rfl) (fun _ _ _ h => h) (Or.inl ⟨by rfl, ?yaqd38⟩) hHeld ?raqd38
                        case yaqd38 => intro w hSw; clear hSw; go_simp; with_reducible rfl
                        simp only [Act.put, List.setIfInBounds_toArray, List.set_cons_zero, List.set_cons_succ]
                        refine wpAnyH_take (i := 1) (v := ?vaqd39) (by simp; rfl) (by kernel_rfl) (by kernel_rfl) (by kernel_rfl) (fun _ _ _ h => h) (Or.inl ⟨by rfl, ?yaqd39⟩) hHeld ?raqd39
                        case yaqd39 => intro w hSw; clear hSw; go_simp; with_reducible rfl
                        simp only [Act.put, List.setIfInBounds_toArray, List.set_cons_zero, List.set_cons_succ]
                        refine wpAnyH_take (i := 2) (v := ?vaqd40) (by simp; rfl) (by kernel_rfl) (by kernel_rfl) (by kernel_rfl) (fun _ _ _ h => h) (Or.inl ⟨by rfl, ?yaqd40⟩) hHeld ?raqd40
                        case yaqd40 => intro w hSw; have z := HCM.out _ (LAt.later RY.out.cf hSw); clear hSw; go_simp; with_reducible rfl
                        simp only [Act.put, List.setIfInBounds_toArray, List.set_cons_zero, List.set_cons_succ]
                        refine wpAnyH_take (i := 3) (v := ?vaqd41) (by simp; rfl) (by kernel_rfl) (by kernel_rfl) (by kernel_rfl) (fun _ _ _ h => h) (Or.inl ⟨by rfl, ?yaqd41⟩) hHeld ?raqd41
                        case yaqd41 => intro w hSw; clear hSw; go_simp; with_reducible rfl
                        simp only [Act.put, List.setIfInBounds_toArray, List.set_cons_zero, List.set_cons_succ]
                        refine wpAnyH_take (i := 4) (v := ?vaqd42) (by simp; rfl) (by kernel_rfl) (by kernel_rfl) (by kernel_rfl) (fun _ _ _ h => h) (Or.inl ⟨by rfl, ?yaqd42⟩) hHeld ?raqd42
                        case yaqd42 => intro w hSw; clear hSw; go_simp; with_reducible rfl
                        simp only [Act.put, List.setIfInBounds_toArray, List.set_cons_zero, List.set_cons_succ]
                        refine wpAnyH_take (i := 5) (v := ?vaqd43) (by simp; rfl) (by kernel_rfl) (by kernel_rfl) (by kernel_rfl) (fun _ _ _ h => h) (Or.inl ⟨by rfl, ?yaqd43⟩) hHeld ?raqd43
                        case yaqd43 => intro w hSw; clear hSw; go_simp; with_reducible rfl
                        simp only [Act.put, List.setIfInBounds_toArray, List.set_cons_zero, List.set_cons_succ]
                        refine wpAnyH_take (i := 6) (v := ?vaqd44) (by simp; rfl) (by kernel_rfl) (by kernel_rfl) (by kernel_rfl) (fun _ _ _ h => h) (Or.inl ⟨by rfl, ?yaqd44⟩) hHeld ?raqd44
                        case yaqd44 => intro w hSw; clear hSw; go_simp; with_reducible rfl
                        simp only [Act.put, List.setIfInBounds_toArray, List.set_cons_zero, List.set_cons_succ]
                        refine wpAnyH_take (i := 7) (v := ?vaqd45) (by simp; rfl) (by kernel_rfl) (by kernel_rfl) (by kernel_rfl) (fun _ _ _ h => h) (Or.inl ⟨by rfl, ?yaqd45⟩) hHeld ?raqd45
                        case yaqd45 => intro w hSw; clear hSw; go_simp; with_reducible rfl
                        simp only [Act.put, List.setIfInBounds_toArray, List.set_cons_zero, List.set_cons_succ]
                        refine wpAnyH_take (i := 8) (v := ?vaqd46) (by simp; rfl) (by kernel_rfl) (by kernel_rfl) (by kernel_rfl) (fun _ _ _ h => h) (Or.inl ⟨by rfl, ?yaqd46⟩) hHeld ?raqd46
                        case yaqd46 => intro w hSw; clear hSw; go_simp; with_reducible rfl
                        simp only [Act.put, List.setIfInBounds_toArray, List.set_cons_zero, List.set_cons_succ]
                        refine wpAnyH_take (i := 9) (v := ?vaqd47) (by simp; rfl) (by kernel_rfl) (by kernel_rfl) (by kernel_rfl) (fun _ _ _ h => h) (Or.inl ⟨by rfl, ?yaqd47⟩) hHeld ?raqd47
                        case yaqd47 => intro w hSw; have z := R.RAt.c2 (R.RAt.later RX.out hSw); clear hSw; go_simp; with_reducible rfl
                        simp only [Act.put, List.setIfInBounds_toArray, List.set_cons_zero, List.set_cons_succ]
                        refine wpAnyH_take (i := 10) (v := ?vaqd48) (by simp; rfl) (by kernel_rfl) (by kernel_rfl) (by kernel_rfl) (fun _ _ _ h => h) (Or.inl ⟨by rfl, ?yaqd48⟩) hHeld ?raqd48
                        case yaqd48 => intro w hSw; clear hSw; go_simp; with_reducible rfl
                        simp only [Act.put, List.setIfInBounds_toArray, List.set_cons_zero, List.set_cons_succ]
                        refine wpAnyH_take (i := 11) (v := ?vaqd49) (by simp; rfl) (by kernel_rfl) (by kernel_rfl) (by kernel_rfl) (fun _ _ _ h => h) (Or.inl ⟨by rfl, ?yaqd49⟩) hHeld ?raqd49
                        case yaqd49 => intro w hSw; clear hSw; go_simp; with_reducible rfl
                        simp only [Act.put, List.setIfInBounds_toArray, List.set_cons_zero, List.set_cons_succ]
                        refine wpAnyH_take (i := 12) (v := ?vaqd50) (by simp; rfl) (by kernel_rfl) (by kernel_rfl) (by kernel_rfl) (fun _ _ _ h => h) (Or.inl ⟨by rfl, ?yaqd50⟩) hHeld ?raqd50
                        case yaqd50 => intro w hSw; clear hSw; go_simp; with_reducible rfl
                        simp only [Act.put, List.setIfInBounds_toArray, List.set_cons_zero, List.set_cons_succ]
                        refine wpAnyH_take (i := 13) (v := ?vaqd51) (by simp; rfl) (by kernel_rfl) (by kernel_rfl) (by kernel_rfl) (fun _ _ _ h => h) (Or.inl ⟨by rfl, ?yaqd51⟩) hHeld ?raqd51
                        case yaqd51 => intro w hSw; clear hSw; go_simp; with_reducible rfl
                        simp only [Act.put, List.setIfInBounds_toArray, List.set_cons_zero, List.set_cons_succ]
                        refine wpAnyH_take (i := 14) (v := ?vaqd52) (by simp; rfl) (by kernel_rfl) (by kernel_rfl) (by kernel_rfl) (fun _ _ _ h => h) (Or.inl ⟨by rfl, ?yaqd52⟩) hHeld ?raqd52
                        case yaqd52 => intro w hSw; clear hSw; go_simp; with_reducible rfl
                        simp only [Act.put, List.setIfInBounds_toArray, List.set_cons_zero, List.set_cons_succ]
                        refine wpAnyH_take (i := 15) (v := ?vaqd53) (by simp; rfl) (by kernel_rfl) (by kernel_rfl) (by kernel_rfl) (fun _ _ _ h => h) (Or.inl ⟨by rfl, ?yaqd53⟩) hHeld ?raqd53
                        case yaqd53 => intro w hSw; have z := (MC.out.later hSw).c0 hlast; clear hSw; go_simp; with_reducible rfl
                        simp only [Act.put, List.setIfInBounds_toArray, List.set_cons_zero, List.set_cons_succ]
                        refine wpAnyH_take (i := 16) (v := ?vaqd54) (by simp; rfl) (by kernel_rfl) (by kernel_rfl) (by kernel_rfl) (fun _ _ _ h => h) (Or.inl ⟨by rfl, ?yaqd54⟩) hHeld ?raqd54
                        case yaqd54 => intro w hSw; clear hSw; go_simp; with_reducible rfl
                        simp only [Act.put, List.setIfInBounds_toArray, List.set_cons_zero, List.set_cons_succ]
                        refine wpAnyH_take (i := 17) (v := ?vaqd55) (by simp; rfl) (by kernel_rfl) (by kernel_rfl) (by kernel_rfl) (fun _ _ _ h => h) (Or.inl ⟨by rfl, ?yaqd55⟩) hHeld ?raqd55
                        case yaqd55 => intro w hSw; clear hSw; go_simp; with_reducible rfl
                        simp only [Act.put, List.setIfInBounds_toArray, List.set_cons_zero, List.set_cons_succ]
                        refine wpAnyH_take (i := 18) (v := ?vaqd56) (by simp; rfl) (by kernel_rfl) (by kernel_rfl) (by kernel_rfl) (fun _ _ _ h => h) (Or.inl ⟨by rfl, ?yaqd56⟩) hHeld ?raqd56
                        case yaqd56 => intro w hSw; clear hSw; go_simp; with_reducible rfl
                        simp only [Act.put, List.setIfInBounds_toArray, List.set_cons_zero, List.set_cons_succ]
                        clear hHeld
                        refine wpAnyH_done (by kernel_rfl) (NoPanic.normal ?_) _
                        have RQ : Hid (_) := RY.out.later DQ.out
                        have RZ : Hid (R.RAt 77 wd Bo ro) := R.RAt.later RX.out DQ.out
                        have HIW : Hid ((⟨ro.block, ro.val⟩ : Im).Wf) := ⟨⟨HW7.out.b0, HW7.out.b1⟩, HW7.out.len, HW7.out.byte⟩
                        obtain ⟨q9, m9, c9, W9, hr9, rr9⟩ := RQ.out.img HOK.out.cw ⟨ro.block, ro.val⟩ HIW.out (by rw [HM.out]; omega)
                        have y2 := R.RAt.c2 RZ.out
                        have L24 : Hid (_) := R.RAt.load24 RZ.out HW7.out.len
                        have U24 : Hid (_) := buildI wd ro.block ro.val HW7.out.len
                        have S24 : Hid (_) := build_im wd ⟨ro.block, ro.val⟩ HW7.out.len
                        have A24 : Hid (_) := hr9
                        have F24 : Hid (∃ s tv vs, RR w W9 c r Bs Bl s tv (.slice q9 m9 c9) vs ∧ Sc.Ok c.mr r.tail (k + 1) s ∧ scRun (stS c (newest ws d)) c.mr (LC - (k + 1)) (r.tail + ((k + 1 : Nat) : Int)) s = FN) := by
                          have hfo : ro.kind = 1 ∧ Folls s.come ro.block c.mr := ⟨h1, HFO.out⟩
                          have es := scStep_img (s := s) (p := P) hfo
                          refine ⟨_, _, _, rr9, HOK.out.step (by rw [HMR.out]; omega) (by omega) (by omega) HPP.out.symm HW7.out es, ?_⟩
                          have := HRUN.out
                          rw [show LC - k = LC - (k + 1) + 1 by omega, scRun_go (by rw [HST.out]) (by rw [HST.out]; exact es)] at this
                          rw [show r.tail + ((k + 1 : Nat) : Int) = P + 1 by have := HPP.out; omega]
                          exact this
                        clear DQ RY RX MC hr9 rr9 RQ RZ HRUN HST
                        go_wp2_with ((with_reducible refine at_ops ?_); (first | (refine wpList_load_is (by rfl) 55 rfl rfl L24.out ?_) | (refine wpList_build_is (vs := [(0, .int .i64 ro.block), (1, .agg (U8 ro.val).toArray)]) (by rfl) 57 rfl (by rfl) U24.out ?_) | (refine wpList_slice_is (u := .agg (icells ⟨ro.block, ro.val⟩).toArray) (by rfl) 52 rfl rfl S24.out ?_) | (refine wpList_append_is (u1 := .slice (some ⟨g5, o5, none⟩) (m' + 1) cc) (u2 := .slice (some ⟨wd.heap.size, 0, none⟩) 1 1) (by rfl) rfl rfl rfl rfl A24.out ?_)); simp only [Act.put, List.setIfInBounds_toArray, List.set_cons_zero, List.set_cons_succ])
                        clear y2 L24 U24 S24 A24
                        go_wp2_with fail
                        go_roundw
                        case rel => exact ⟨k + 1, by omega, by go_num, q9, m9, c9, rfl, F24.out⟩
                        case measure => simp [intOf]; omega
                · have e1 : (ro.kind == 1) = false := by simp [h1]
                  have hkd : ro.kind = 2 := by
                    have hg := stS_good (c := c) (rd := newest ws d) (p := P) (by rw [HST.out])
                    rw [HST.out] at hg
                    rcases ((R.may_iff _).1 hg.1).2 with hi | hi
                    · exact absurd hi.1 h1
                    · exact hi.1
                  by_cases him : ro.images = (m : Int)
                  · have e2 : (ro.images != (m : Int)) = false := by simp [him]
                    have TVS : Hid (∃ tq tm tc, tv = .slice tq tm tc) := by obtain ⟨a1, a2, a3, -⟩ := XOwn.in RY.out.tx; exact ⟨a1, _, a2, a3⟩
                    have HIM : Hid (ro.images = (m : Int)) := him
                    have hPu : Go.Proofs.YtefnkjajjidfaaaGreatDoor.u64 P := ⟨hP0, by omega⟩
                    obtain ⟨q9, m9, c9, V9, hr9, lga, lgb, vs9, rr9⟩ := RY.out.com HOK.out.cw (by omega) P hPu
                    have x3 : wy.cell? ⟨Bl, 3, none⟩ = some tv := LAt.cell RY.out.lg 3
                    have U27 : Hid (_) := buildX wy P qc m cc
                    have S27 : Hid (_) := build_rtx wy P qc m cc
                    have A27 : Hid (_) := hr9
                    have x3a : V9.cell? ⟨Bl, 3, none⟩ = some tv := LAt.cell lga 3
                    have x3f := LAt.free lga 3
                    have x2a : (V9.setCell ⟨Bl, 3, none⟩ (.slice q9 m9 c9)).cell? ⟨Bl, 2, none⟩ = some (.int .u64 s.fin) := LAt.cell lgb 2
                    have x2f := LAt.free lgb 2
                    have hwP1 : IntKind.u64.wrap (P + 1) = P + 1 := by rw [IntKind.wrap_u64]; omega
                    have F28 : Hid (∃ s tv vs, RR w ((V9.setCell ⟨Bl, 3, none⟩ (.slice q9 m9 c9)).setCell ⟨Bl, 2, none⟩ (.int .u64 (P + 1))) c r Bs Bl s tv (.slice none 0 0) vs ∧ Sc.Ok c.mr r.tail (k + 1) s ∧ scRun (stS c (newest ws d)) c.mr (LC - (k + 1)) (r.tail + ((k + 1 : Nat) : Int)) s = FN) := by
                      have es := scStep_com (mr := c.mr) (s := s) (p := P) (r := ro) ⟨hkd, by rw [HM.out]; exact HIM.out⟩
                      refine ⟨_, _, _, rr9, HOK.out.step (by rw [HMR.out]; omega) (by omega) (by omega) HPP.out.symm HW7.out es, ?_⟩
                      have := HRUN.out
                      rw [show LC - k = LC - (k + 1) + 1 by omega, scRun_go (by rw [HST.out]) (by rw [HST.out]; exact es)] at this
                      rw [show r.tail + ((k + 1 : Nat) : Int) = P + 1 by have := HPP.out; omega]
                      exact this
                    clear RY RX MC hr9 rr9 lga lgb HRUN HST him
                    obtain ⟨tq, tm, tc, htv⟩ : ∃ tq tm tc, tv = .slice tq tm tc := TVS.out
                    subst htv
                    go_wp2_with ((with_reducible refine at_ops ?_); (first | (refine wpList_build_is (vs := [(0, .int .u64 P), (1, .slice qc m cc)]) (by rfl) 80 rfl (by rfl) U27.out ?_) | (refine wpList_slice_is (u := .agg #[.int .u64 P, .slice qc m cc]) (by rfl) 32 rfl rfl S27.out ?_) | (refine wpList_append_is (u1 := .slice tq tm tc) (u2 := .slice (some ⟨wy.heap.size, 0, none⟩) 1 1) (by rfl) rfl rfl rfl rfl A27.out ?_)); simp only [Act.put, List.setIfInBounds_toArray, List.set_cons_zero, List.set_cons_succ])
                    clear x3 U27 S27 A27 x3a x3f x2a x2f
                    go_wp2_with fail
                    go_roundw
                    case rel => exact ⟨k + 1, by omega, by go_num, none, 0, 0, rfl, F28.out⟩
                    case measure => simp [intOf]; omega
                  · have e2 : (ro.images != (m : Int)) = true := by simp [him]
                    have HEND : Hid (s = FN) := by
                      have := HRUN.out
                      rw [scRun_stop (by rw [HST.out]; exact scStep_no (fun e => h1 e.1) (fun e => him (by have := e.2; rw [HM.out] at this; exact this)))] at this
                      exact this
                    clear HRUN HST
                    obtain ⟨qe, ce, hve, l1, l2, l3, l4, l5⟩ := RY.out.ret
                    subst hve
                    have LE : Hid (_) := l1
                    have TE : Hid (_) := l2
                    have FE : Hid (_) := l3
                    have XE : Hid (_) := l4
                    have GE : Hid (_) := l5
                    clear l1 l2 l3 l4 l5
                    go_wp2_with ((with_reducible refine at_ops ?_); (first | (refine wpList_load_is (by rfl) 34 rfl rfl LE.out ?_) | (refine wpList_store_is (by rfl) 34 rfl rfl rfl TE.out ?_)); simp only [Act.put, List.setIfInBounds_toArray, List.set_cons_zero, List.set_cons_succ])
                    refine bodyPost_ret (results_lat Tryz.results6 _ _ (w.heap.size + 1) 34 _ _ (by rfl) FE.out Tryz.underlying34 rfl sizeR) rfl ?_
                    rw [HR.out]
                    have hE : FN = s := HEND.out.symm
                    subst hE
                    first | exact ⟨qe, ⟨ce, rfl⟩, XE.out, GE.out⟩ | exact ⟨qe, ce, rfl, XE.out, GE.out⟩
            · have hnl : ¬ (k : Int) < (LC : Int) := by omega
              have HEND : Hid (s = FN) := by
                have e0 : LC - k = 0 := by omega
                have := hrun
                rw [e0, scRun_zero] at this
                exact this
              clear hrun
              obtain ⟨qe, ce, hve, l1, l2, l3, l4, l5⟩ := RV.out.ret
              subst hve
              have LE : Hid (_) := l1
              have TE : Hid (_) := l2
              have FE : Hid (_) := l3
              have XE : Hid (_) := l4
              have GE : Hid (_) := l5
              clear l1 l2 l3 l4 l5
              go_wp2_with ((with_reducible refine at_ops ?_); (first | (refine wpList_load_is (by rfl) 34 rfl rfl LE.out ?_) | (refine wpList_store_is (by rfl) 34 rfl rfl rfl TE.out ?_)); simp only [Act.put, List.setIfInBounds_toArray, List.set_cons_zero, List.set_cons_succ])
              refine bodyPost_ret (results_lat Tryz.results6 _ _ (w.heap.size + 1) 34 _ _ (by rfl) FE.out Tryz.underlying34 rfl sizeR) rfl ?_
              rw [HR.out]
              have hE : FN = s := HEND.out.symm
              subst hE
              first | exact ⟨qe, ⟨ce, rfl⟩, XE.out, GE.out⟩ | exact ⟨qe, ce, rfl, XE.out, GE.out⟩
      · have HR : Hid (_) := HZ.out.1 hk
        have hq : (k != 0) = true := by simp [hk]
        clear HZ
        go_wp2_with ((with_reducible refine at_ops ?_); (first | (refine wpList_build_is (vs := []) (by rfl) 34 rfl (by rfl) U5.out ?_) | (refine wpList_store_is (by rfl) 34 rfl rfl rfl T5.out ?_)); simp only [Act.put, List.setIfInBounds_toArray, List.set_cons_zero, List.set_cons_succ])
        refine bodyPost_ret (results_lat Tryz.results6 _ _ (w.heap.size + 1) 34 _ _ (by rfl) F5.out Tryz.underlying34 rfl sizeR) rfl ?_
        rw [HR.out]
        first | exact ⟨none, ⟨0, rfl⟩, XIn.nil _ _, G5.out⟩ | exact ⟨none, 0, rfl, XIn.nil _ _, G5.out⟩
    · have hq : ((n : Int) != 1 + bl + lc) = true := by simp [he]
      have HR : Hid (_) := HE.out.1 he
      clear HE
      have U2 : Hid (_) := buildR0 w2
      have T2 : Hid (_) := LAt.store (ds := gcells 0 0 0 (.slice none 0 0)) V2.out sizeR rfl (all_oneCell_toArray (gcells_ones rfl 0 0 0))
      have F2 : Hid (LAt 34 (w2.setRow (w.heap.size + 1) (gcells 0 0 0 (.slice none 0 0)).toArray) (w.heap.size + 1) (gcells 0 0 0 (.slice none 0 0))) := LAt.stored V2.out _
      have G2 : Hid (Below w.heap.size w (w2.setRow (w.heap.size + 1) (gcells 0 0 0 (.slice none 0 0)).toArray)) := below_setRow B2.out (Nat.le_succ _) _
      go_wp2_with ((with_reducible refine at_ops ?_); (first | (refine wpList_build_is (vs := []) (by rfl) 34 rfl (by rfl) U2.out ?_) | (refine wpList_store_is (by rfl) 34 rfl rfl rfl T2.out ?_)); simp only [Act.put, List.setIfInBounds_toArray, List.set_cons_zero, List.set_cons_succ])
      refine bodyPost_ret (results_lat Tryz.results6 _ _ (w.heap.size + 1) 34 _ _ (by rfl) F2.out Tryz.underlying34 rfl sizeR) rfl ?_
      rw [HR.out]
      first | exact ⟨none, ⟨0, rfl⟩, XIn.nil _ _, G2.out⟩ | exact ⟨none, 0, rfl, XIn.nil _ _, G2.out⟩
  · have hq : ¬ cfg c = 0 := by unfold cfg; rw [if_neg hc]; decide
    have HR : Hid (rdL c n (newest ws d) = (log0, 3)) := by
      have e := supOf_no (c := c) n (newest ws d) hc
      show _ = _
      rw [rdL_no (by rw [e]; decide), e]
    rw [show cfg c = 3 from if_neg hc]
    have U1 : Hid (_) := buildR0 w1
    have T1 : Hid (_) := LAt.store (ds := gcells 0 0 0 (.slice none 0 0)) V1.out sizeR rfl (all_oneCell_toArray (gcells_ones rfl 0 0 0))
    have F1 : Hid (LAt 34 (w1.setRow (w.heap.size + 1) (gcells 0 0 0 (.slice none 0 0)).toArray) (w.heap.size + 1) (gcells 0 0 0 (.slice none 0 0))) := LAt.stored V1.out _
    have G1 : Hid (Below w.heap.size w (w1.setRow (w.heap.size + 1) (gcells 0 0 0 (.slice none 0 0)).toArray)) := below_setRow B1.out (Nat.le_succ _) _
    go_wp2_with ((with_reducible refine at_ops ?_); (first | (refine wpList_build_is (vs := []) (by rfl) 34 rfl (by rfl) U1.out ?_) | (refine wpList_store_is (by rfl) 34 rfl rfl rfl T1.out ?_)); simp only [Act.put, List.setIfInBounds_toArray, List.set_cons_zero, List.set_cons_succ])
    refine bodyPost_ret (results_lat Tryz.results6 _ _ (w.heap.size + 1) 34 _ _ (by rfl) F1.out Tryz.underlying34 rfl sizeR) rfl ?_
    rw [HR.out]
    first | exact ⟨none, ⟨0, rfl⟩, XIn.nil _ _, G1.out⟩ | exact ⟨none, 0, rfl, XIn.nil _ _, G1.out⟩
end Go.Proofs.YtefnkjajjidfaaaGreatDoor
