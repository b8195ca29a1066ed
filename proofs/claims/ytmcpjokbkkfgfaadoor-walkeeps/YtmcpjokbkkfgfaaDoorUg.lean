/-
  Layer 9, the functions: Read.
-/
import Derived.Test.YtmcpjokbkkfgfaaDoorUf
namespace Go.Proofs.YtmcpjokbkkfgfaaDoor
open Go.RowKit


set_option maxHeartbeats 1000000 in
set_option maxRecDepth 100000 in
theorem wread_nil (p : Int) (w : World) : Calls Tryd.prog 14 #[.pointer none, .int .u64 p] w fun e w' => e = .returned (.tuple #[.agg (R.rcells R.rec0).toArray, .int .i64 1]) ∧ Below w.heap.size w w' := by
  obtain ⟨w0, hw0⟩ : ∃ x, x = w.alloc (.cells (R.rcells R.rec0).toArray 41) := ⟨_, rfl⟩
  have A1 : Hid (_) := R.alloc31 w
  rw [← hw0] at A1
  have B0 : Hid (Below w.heap.size w w0) := by rw [hw0]; exact below_alloc w _
  have V0 : Hid (R.RAt 41 w0 w.heap.size R.rec0) := by rw [hw0]; exact R.RAt.new 41 w _
  have U1 : Hid (_) := R.build31 w0 #[] R.rec0 R.fill_none
  have T1 : Hid (_) := R.RAt.store R.size31 (s := R.rec0) V0.out R.rec0_len R.rec0_len
  have F1 : Hid (R.RAt 41 (w0.setRow w.heap.size (R.rcells R.rec0).toArray) w.heap.size R.rec0) := R.RAt.stored V0.out _
  have G1 : Hid (Below w.heap.size w (w0.setRow w.heap.size (R.rcells R.rec0).toArray)) := below_setRow B0.out (Nat.le_refl _) _
  clear hw0
  go_enter Tryd.func14, Tryd.ntmps14
  go_wp2_with ((with_reducible refine at_ops ?_); (refine wpList_alloc_is (by rfl) 41 rfl A1.out ?_); simp only [Act.put, List.setIfInBounds_toArray, List.set_cons_zero, List.set_cons_succ])
  refine (lacks_nil _).mono ?_
  rintro e w1 ⟨rfl, rfl⟩
  go_wp2_with ((with_reducible refine at_ops ?_); (first | (refine wpList_build_is (vs := []) (by rfl) 41 rfl (by rfl) U1.out ?_) | (refine wpList_store_is (by rfl) 41 rfl rfl rfl T1.out ?_)); simp only [Act.put, List.setIfInBounds_toArray, List.set_cons_zero, List.set_cons_succ])
  exact bodyPost_ret (R.results_rec Tryd.results14 _ _ w.heap.size 41 _ _ (by rfl) F1.out R.rec0_len Tryd.underlying41 rfl R.size31) rfl ⟨rfl, G1.out⟩
set_option maxHeartbeats 1000000 in
set_option maxRecDepth 100000 in
theorem wread_none {w : World} {L : Nat} {g : Lg} (h : GAt w L none g) (p : Int) : Calls Tryd.prog 14 #[.pointer (some ⟨L, 0, none⟩), .int .u64 p] w fun e w' => e = .returned (.tuple #[.agg (R.rcells R.rec0).toArray, .int .i64 1]) ∧ Below w.heap.size w w' := by
  obtain ⟨w0, hw0⟩ : ∃ x, x = w.alloc (.cells (R.rcells R.rec0).toArray 41) := ⟨_, rfl⟩
  have A1 : Hid (_) := R.alloc31 w
  rw [← hw0] at A1
  have B0 : Hid (Below w.heap.size w w0) := by rw [hw0]; exact below_alloc w _
  have V0 : Hid (R.RAt 41 w0 w.heap.size R.rec0) := by rw [hw0]; exact R.RAt.new 41 w _
  have U1 : Hid (_) := R.build31 w0 #[] R.rec0 R.fill_none
  have T1 : Hid (_) := R.RAt.store R.size31 (s := R.rec0) V0.out R.rec0_len R.rec0_len
  have F1 : Hid (R.RAt 41 (w0.setRow w.heap.size (R.rcells R.rec0).toArray) w.heap.size R.rec0) := R.RAt.stored V0.out _
  have G1 : Hid (Below w.heap.size w (w0.setRow w.heap.size (R.rcells R.rec0).toArray)) := below_setRow B0.out (Nat.le_refl _) _
  clear hw0
  go_enter Tryd.func14, Tryd.ntmps14
  go_wp2_with ((with_reducible refine at_ops ?_); (refine wpList_alloc_is (by rfl) 41 rfl A1.out ?_); simp only [Act.put, List.setIfInBounds_toArray, List.set_cons_zero, List.set_cons_succ])
  refine (lacks_none (LAt.later h B0.out)).mono ?_
  rintro e w1 ⟨rfl, rfl⟩
  go_wp2_with ((with_reducible refine at_ops ?_); (first | (refine wpList_build_is (vs := []) (by rfl) 41 rfl (by rfl) U1.out ?_) | (refine wpList_store_is (by rfl) 41 rfl rfl rfl T1.out ?_)); simp only [Act.put, List.setIfInBounds_toArray, List.set_cons_zero, List.set_cons_succ])
  exact bodyPost_ret (R.results_rec Tryd.results14 _ _ w.heap.size 41 _ _ (by rfl) F1.out R.rec0_len Tryd.underlying41 rfl R.size31) rfl ⟨rfl, G1.out⟩
set_option maxHeartbeats 2000000 in
set_option maxRecDepth 100000 in
theorem wread_at {w : World} {S : Nat → Prop} {L p : Nat} {d : List Int} {ws : List Wr} {g : Lg} (h : LD w S L p d ws g) (ht : Tab w) (x : Int) (hx : 0 ≤ x) :
    Calls Tryd.prog 14 #[.pointer (some ⟨L, 0, none⟩), .int .u64 x] w fun e w' => e = .returned (.tuple #[.agg (R.rcells (rdS g (newest ws d) x).1).toArray, .int .i64 (rdS g (newest ws d) x).2]) ∧ Below w.heap.size w w' := by
  obtain ⟨w0, hw0⟩ : ∃ x, x = w.alloc (.cells (R.rcells R.rec0).toArray 41) := ⟨_, rfl⟩
  have A1 : Hid (_) := R.alloc31 w
  rw [← hw0] at A1
  have B0 : Hid (Below w.heap.size w w0) := by rw [hw0]; exact below_alloc w _
  have V0 : Hid (R.RAt 41 w0 w.heap.size R.rec0) := by rw [hw0]; exact R.RAt.new 41 w _
  have HG0 : Hid (LD w0 S L p d ws g) := h.later B0.out
  have c7 := GAt.c7 HG0.out.log
  have c8 := GAt.c8 HG0.out.log
  have HT : Hid (Tab w) := ht
  clear hw0 h ht
  go_enter Tryd.func14, Tryd.ntmps14
  go_wp2_with ((with_reducible refine at_ops ?_); (refine wpList_alloc_is (by rfl) 41 rfl A1.out ?_); simp only [Act.put, List.setIfInBounds_toArray, List.set_cons_zero, List.set_cons_succ])
  refine (lacks_some HG0.out.log).mono ?_
  rintro e w1 ⟨rfl, rfl⟩
  by_cases ho : Outr g x
  · have HR : Hid (rdS g (newest ws d) x = (R.rec0, 30)) := rdS_out _ ho
    have U1 : Hid (_) := R.build31 w0 #[] R.rec0 R.fill_none
    have T1 : Hid (_) := R.RAt.store R.size31 (s := R.rec0) V0.out R.rec0_len R.rec0_len
    have F1 : Hid (R.RAt 41 (w0.setRow w.heap.size (R.rcells R.rec0).toArray) w.heap.size R.rec0) := R.RAt.stored V0.out _
    have G1 : Hid (Below w.heap.size w (w0.setRow w.heap.size (R.rcells R.rec0).toArray)) := below_setRow B0.out (Nat.le_refl _) _
    by_cases h1 : x < g.tail
    · clear ho
      go_wp2_with ((with_reducible refine at_ops ?_); (first | (refine wpList_build_is (vs := []) (by rfl) 41 rfl (by rfl) U1.out ?_) | (refine wpList_store_is (by rfl) 41 rfl rfl rfl T1.out ?_)); simp only [Act.put, List.setIfInBounds_toArray, List.set_cons_zero, List.set_cons_succ])
      rw [HR.out]
      exact bodyPost_ret (R.results_rec Tryd.results14 _ _ w.heap.size 41 _ _ (by rfl) F1.out R.rec0_len Tryd.underlying41 rfl R.size31) rfl ⟨rfl, G1.out⟩
    · have h2 : g.fin ≤ x := by rcases ho with h | h <;> omega
      clear ho
      go_wp2_with ((with_reducible refine at_ops ?_); (first | (refine wpList_build_is (vs := []) (by rfl) 41 rfl (by rfl) U1.out ?_) | (refine wpList_store_is (by rfl) 41 rfl rfl rfl T1.out ?_)); simp only [Act.put, List.setIfInBounds_toArray, List.set_cons_zero, List.set_cons_succ])
      rw [HR.out]
      exact bodyPost_ret (R.results_rec Tryd.results14 _ _ w.heap.size 41 _ _ (by rfl) F1.out R.rec0_len Tryd.underlying41 rfl R.size31) rfl ⟨rfl, G1.out⟩
  · have h1 : ¬ x < g.tail := fun h => ho (.inl h)
    have h2 : ¬ g.fin ≤ x := fun h => ho (.inr h)
    have HO : Hid (¬ Outr g x) := ho
    have hxM : x ≤ 4611686018427387904 := by have := HG0.out.ok.fM; omega
    clear ho
    go_wp2_with fail
    clear c7 c8
    refine wp_region_noPanic ?_
    refine wp_region_held_drew (S := fun w' => Below w0.heap.size w0 w') (by kernel_rfl) (below_drawn 1) (fun hHeld => ?_)
    have D1 : Hid (Below w0.heap.size w0 w0.drew) := hHeld
    generalize w0.drew = wd at *
    refine wpAnyH_take (i := 0) (v := ?va1) (by simp; rfl) (by kernel_rfl) (by kernel_rfl) (by kernel_rfl) (fun _ _ _ h => h) (Or.inl ⟨by rfl, ?ya1⟩) hHeld ?ra1
    case ya1 => intro w hSw; clear hSw; go_simp; with_reducible rfl
    simp only [Act.put, List.setIfInBounds_toArray, List.set_cons_zero, List.set_cons_succ]
    refine wpAnyH_take (i := 1) (v := ?va2) (by simp; rfl) (by kernel_rfl) (by kernel_rfl) (by kernel_rfl) (fun _ _ _ h => h) (Or.inl ⟨by rfl, ?ya2⟩) hHeld ?ra2
    case ya2 => intro w hSw; clear hSw; go_simp; with_reducible rfl
    simp only [Act.put, List.setIfInBounds_toArray, List.set_cons_zero, List.set_cons_succ]
    refine wpAnyH_take (i := 2) (v := ?va3) (by simp; rfl) (by kernel_rfl) (by kernel_rfl) (by kernel_rfl) (fun _ _ _ h => h) (Or.inl ⟨by rfl, ?ya3⟩) hHeld ?ra3
    case ya3 => intro w hSw; clear hSw; go_simp; with_reducible rfl
    simp only [Act.put, List.setIfInBounds_toArray, List.set_cons_zero, List.set_cons_succ]
    refine wpAnyH_take (i := 3) (v := ?va4) (by simp; rfl) (by kernel_rfl) (by kernel_rfl) (by kernel_rfl) (fun _ _ _ h => h) (Or.inl ⟨by rfl, ?ya4⟩) hHeld ?ra4
    case ya4 => intro w hSw; have z := GAt.c0 (LAt.later HG0.out.log hSw); clear hSw; go_simp; with_reducible rfl
    simp only [Act.put, List.setIfInBounds_toArray, List.set_cons_zero, List.set_cons_succ]
    refine wpAnyH_take (i := 4) (v := ?va5) (by simp; rfl) (by kernel_rfl) (by kernel_rfl) (by kernel_rfl) (fun _ _ _ h => h) (Or.inl ⟨by rfl, ?ya5⟩) hHeld ?ra5
    case ya5 => intro w hSw; clear hSw; go_simp; with_reducible rfl
    simp only [Act.put, List.setIfInBounds_toArray, List.set_cons_zero, List.set_cons_succ]
    refine wpAnyH_take (i := 5) (v := ?va6) (by simp; rfl) (by kernel_rfl) (by kernel_rfl) (by kernel_rfl) (fun _ _ _ h => h) (Or.inl ⟨by rfl, ?ya6⟩) hHeld ?ra6
    case ya6 => intro w hSw; clear hSw; go_simp; with_reducible rfl
    simp only [Act.put, List.setIfInBounds_toArray, List.set_cons_zero, List.set_cons_succ]
    refine wpAnyH_ready (rs := [6]) (by kernel_rfl) (by simp) ?_
    refine AllReadyH.cons (by simp; rfl) (fun Kc hKc => ?_) AllReadyH.nil
    go_simp
    refine (sector_at (LAt.later HG0.out.log D1.out) HG0.out.ok x hx hxM).mono ?_
    rintro e wn ⟨rfl, rfl⟩
    refine hKc.out _ _ hHeld (fun hHeld => ?_)
    clear hKc Kc
    refine wpAnyH_ready (rs := [7]) (by kernel_rfl) (by simp) ?_
    refine AllReadyH.cons (by simp; rfl) (fun Kc hKc => ?_) AllReadyH.nil
    go_simp
    refine (read_at (HG0.out.later D1.out).dsk (secN g x) (secN_in HG0.out.ok _).1 (secN_in HG0.out.ok _).2).mono ?_
    rintro e w2 ⟨q2, c2, rfl, x2, hc2, b2⟩
    have X2 : Hid (BIn w2 q2 64 (newest ws d (secN g x).toNat)) := x2
    have X2b : Hid (Below wd.heap.size wd w2) := b2
    have B2 : Hid (Below w.heap.size w w2) := below_then (below_then B0.out D1.out) b2
    refine hKc.out _ _ (below_then D1.out b2) (fun hHeld => ?_)
    clear hKc Kc x2 b2
    refine wpAnyH_take (i := 8) (v := ?va7) (by simp; rfl) (by kernel_rfl) (by kernel_rfl) (by kernel_rfl) (fun _ _ _ h => h) (Or.inl ⟨by rfl, ?ya7⟩) hHeld ?ra7
    case ya7 => intro w hSw; clear hSw; go_simp; with_reducible rfl
    simp only [Act.put, List.setIfInBounds_toArray, List.set_cons_zero, List.set_cons_succ]
    refine wpAnyH_take (i := 9) (v := ?va8) (by simp; rfl) (by kernel_rfl) (by kernel_rfl) (by kernel_rfl) (fun _ _ _ h => h) (Or.inl ⟨by rfl, ?ya8⟩) hHeld ?ra8
    case ya8 => intro w hSw; clear hSw; go_simp; with_reducible rfl
    simp only [Act.put, List.setIfInBounds_toArray, List.set_cons_zero, List.set_cons_succ]
    refine wpAnyH_take (i := 10) (v := ?va9) (by simp; rfl) (by kernel_rfl) (by kernel_rfl) (by kernel_rfl) (fun _ _ _ h => h) (Or.inl ⟨by rfl, ?ya9⟩) hHeld ?ra9
    case ya9 => intro w hSw; clear hSw; go_simp; with_reducible rfl
    simp only [Act.put, List.setIfInBounds_toArray, List.set_cons_zero, List.set_cons_succ]
    refine wpAnyH_take (i := 11) (v := ?va10) (by simp; rfl) (by kernel_rfl) (by kernel_rfl) (by kernel_rfl) (fun _ _ _ h => h) (Or.inl ⟨by rfl, ?ya10⟩) hHeld ?ra10
    case ya10 => intro w hSw; clear hSw; go_simp; with_reducible rfl
    simp only [Act.put, List.setIfInBounds_toArray, List.set_cons_zero, List.set_cons_succ]
    refine wpAnyH_take (i := 12) (v := ?va11) (by simp; rfl) (by kernel_rfl) (by kernel_rfl) (by kernel_rfl) (fun _ _ _ h => h) (Or.inl ⟨by rfl, ?ya11⟩) hHeld ?ra11
    case ya11 => intro w hSw; clear hSw; go_simp; with_reducible rfl
    simp only [Act.put, List.setIfInBounds_toArray, List.set_cons_zero, List.set_cons_succ]
    clear hHeld
    refine wpAnyH_done (by kernel_rfl) (NoPanic.normal ?_) _
    go_wp2_with fail
    refine (R.decode_any q2 64 c2 _ w2 X2.out hc2 (HT.out.later B2.out).half).mono ?_
    rintro e w3 ⟨rfl, b3⟩
    have B3 : Hid (Below w.heap.size w w3) := below_then B2.out b3
    have V3 : Hid (R.RAt 41 w3 w.heap.size R.rec0) := R.RAt.below V0.out (below_then (below_then D1.out X2b.out) b3) (by have := R.RAt.lt V0.out; omega)
    have HW : Hid ((R.decS (newest ws d (secN g x).toNat)).1.Wf) := R.decS_wf _ X2.out.byte
    have HRE : Hid (∀ z, R.decS (newest ws d (secN g x).toNat) = z → (¬ z.2 = 0 → rdS g (newest ws d) x = (R.rec0, z.2)) ∧ (z.2 = 0 → ¬ z.1.pos = x → rdS g (newest ws d) x = (R.rec0, 60)) ∧ (z.2 = 0 → z.1.pos = x → rdS g (newest ws d) x = (z.1, 0))) := by
      rintro z rfl
      exact ⟨fun a => rdS_err HO.out a, fun a b => rdS_other HO.out a b, fun a b => rdS_ok HO.out a b⟩
    clear b3 X2 X2b B2 D1 V0 A1 HG0 HT
    obtain ⟨⟨r, k⟩, hz⟩ : ∃ z, R.decS (newest ws d (secN g x).toNat) = z := ⟨_, rfl⟩
    have HZ : Hid (_) := HRE.out _ hz
    rw [hz] at HW ⊢
    clear hz HRE
    obtain ⟨w4, hw4⟩ : ∃ y, y = w3.alloc (.cells (R.rcells r).toArray 41) := ⟨_, rfl⟩
    have A4 : Hid (_) := R.alloc31 w3
    have T4 : Hid (_) := R.store_new R.size31 w3 r HW.out.len
    rw [← hw4] at T4
    have B34 : Hid (Below w3.heap.size w3 w4) := by rw [hw4]; exact below_alloc w3 _
    have B4 : Hid (Below w.heap.size w w4) := below_then B3.out B34.out
    have V4 : Hid (R.RAt 41 w4 w.heap.size R.rec0) := R.RAt.later V3.out B34.out
    have R4 : Hid (R.RAt 41 w4 w3.heap.size r) := by rw [hw4]; exact R.RAt.new 41 w3 r
    have hne : w.heap.size < w3.heap.size := R.RAt.lt V3.out
    clear hw4 B34 V3 B3
    have U4 : Hid (_) := R.build31 w4 #[] R.rec0 R.fill_none
    have T5 : Hid (_) := R.RAt.store R.size31 (s := R.rec0) V4.out R.rec0_len R.rec0_len
    have F5 : Hid (R.RAt 41 (w4.setRow w.heap.size (R.rcells R.rec0).toArray) w.heap.size R.rec0) := R.RAt.stored V4.out _
    have G5 : Hid (Below w.heap.size w (w4.setRow w.heap.size (R.rcells R.rec0).toArray)) := below_setRow B4.out (Nat.le_refl _) _
    by_cases hk : k = 0
    · subst hk
      have c1 := R.RAt.c1 R4.out
      by_cases hp : r.pos = x
      · have HR : Hid (_) := HZ.out.2.2 rfl hp
        have L6 : Hid (_) := R.RAt.load31 R4.out HW.out.len
        have T6 : Hid (_) := R.RAt.store R.size31 (s := r) V4.out R.rec0_len HW.out.len
        have F6 : Hid (R.RAt 41 (w4.setRow w.heap.size (R.rcells r).toArray) w.heap.size r) := R.RAt.stored V4.out _
        have G6 : Hid (Below w.heap.size w (w4.setRow w.heap.size (R.rcells r).toArray)) := below_setRow B4.out (Nat.le_refl _) _
        clear HZ T5 F5 G5 U4
        go_wp2_with ((with_reducible refine at_ops ?_); (first | (refine wpList_alloc_is (by rfl) 41 rfl A4.out ?_) | (refine wpList_load_is (by rfl) 41 rfl rfl L6.out ?_) | (refine wpList_store_is (by rfl) 41 rfl rfl rfl T4.out ?_) | (refine wpList_store_is (by rfl) 41 rfl rfl rfl T6.out ?_)); simp only [Act.put, List.setIfInBounds_toArray, List.set_cons_zero, List.set_cons_succ])
        rw [HR.out]
        exact bodyPost_ret (R.results_rec Tryd.results14 _ _ w.heap.size 41 _ _ (by rfl) F6.out HW.out.len Tryd.underlying41 rfl R.size31) rfl ⟨rfl, G6.out⟩
      · have HR : Hid (_) := HZ.out.2.1 rfl hp
        have hq : (r.pos != x) = true := by simp [hp]
        clear HZ
        go_wp2_with ((with_reducible refine at_ops ?_); (first | (refine wpList_alloc_is (by rfl) 41 rfl A4.out ?_) | (refine wpList_store_is (by rfl) 41 rfl rfl rfl T4.out ?_) | (refine wpList_build_is (vs := []) (by rfl) 41 rfl (by rfl) U4.out ?_) | (refine wpList_store_is (by rfl) 41 rfl rfl rfl T5.out ?_)); simp only [Act.put, List.setIfInBounds_toArray, List.set_cons_zero, List.set_cons_succ])
        rw [HR.out]
        exact bodyPost_ret (R.results_rec Tryd.results14 _ _ w.heap.size 41 _ _ (by rfl) F5.out R.rec0_len Tryd.underlying41 rfl R.size31) rfl ⟨rfl, G5.out⟩
    · have HR : Hid (_) := HZ.out.1 hk
      have hq : (k != 0) = true := by simp [hk]
      clear HZ
      go_wp2_with ((with_reducible refine at_ops ?_); (first | (refine wpList_alloc_is (by rfl) 41 rfl A4.out ?_) | (refine wpList_store_is (by rfl) 41 rfl rfl rfl T4.out ?_) | (refine wpList_build_is (vs := []) (by rfl) 41 rfl (by rfl) U4.out ?_) | (refine wpList_store_is (by rfl) 41 rfl rfl rfl T5.out ?_)); simp only [Act.put, List.setIfInBounds_toArray, List.set_cons_zero, List.set_cons_succ])
      rw [HR.out]
      exact bodyPost_ret (R.results_rec Tryd.results14 _ _ w.heap.size 41 _ _ (by rfl) F5.out R.rec0_len Tryd.underlying41 rfl R.size31) rfl ⟨rfl, G5.out⟩
end Go.Proofs.YtmcpjokbkkfgfaaDoor
