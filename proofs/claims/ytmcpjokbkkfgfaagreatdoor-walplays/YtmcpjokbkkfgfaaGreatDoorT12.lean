/-
  Layer 9, the functions: refusesMore, refuses, Open, Flush, Free, Over.
-/
import Derived.Test.YtmcpjokbkkfgfaaGreatDoorT11
import Derived.Test.YtmcpjokbkkfgfaaGreatDoorT06
namespace Go.Proofs.YtmcpjokbkkfgfaaGreatDoor
open Go.RowKit


set_option maxHeartbeats 1000000 in
set_option maxRecDepth 100000 in
theorem more_nil (w : World) : Calls Tryz.prog 38 #[.pointer none] w fun e w' => e = .returned (.int .i64 1) ∧ w = w' := by
  go_enter Tryz.func38, Tryz.ntmps38
  go_wp2_with fail
  refine (lacks_nil w).mono ?_
  rintro e w1 ⟨rfl, rfl⟩
  go_wp2_with fail
  go_ret
  exact ⟨rfl, rfl⟩
set_option maxHeartbeats 1000000 in
set_option maxRecDepth 100000 in
theorem more_none {w : World} {L : Nat} {g : Lg} (h : GAt w L none g) : Calls Tryz.prog 38 #[.pointer (some ⟨L, 0, none⟩)] w fun e w' => e = .returned (.int .i64 1) ∧ w = w' := by
  go_enter Tryz.func38, Tryz.ntmps38
  go_wp2_with fail
  refine (lacks_none h).mono ?_
  rintro e w1 ⟨rfl, rfl⟩
  go_wp2_with fail
  go_ret
  exact ⟨rfl, rfl⟩
set_option maxHeartbeats 1000000 in
set_option maxRecDepth 100000 in
theorem more_at {w : World} {L p : Nat} {g : Lg} (h : GAt w L (some ⟨p, 0, none⟩) g) (ok : g.Ok) : Calls Tryz.prog 38 #[.pointer (some ⟨L, 0, none⟩)] w fun e w' => e = .returned (.int .i64 (moreS g)) ∧ Below w.heap.size w w' := by
  have HG : Hid (GAt w L (some ⟨p, 0, none⟩) g) := h
  have HO : Hid g.Ok := ok
  have HR : Hid (Below w.heap.size w w) := Below.refl _ _
  have c8 := GAt.c8 h
  have c2 := GAt.c2 h
  have hf : 0 ≤ g.fin ∧ g.fin ≤ 4611686018427387904 := by have := ok.t0; have := ok.tm; have := ok.mf; have := ok.fM; omega
  clear h ok
  go_enter Tryz.func38, Tryz.ntmps38
  go_wp2_with fail
  refine (lacks_some HG.out).mono ?_
  rintro e w1 ⟨rfl, rfl⟩
  by_cases h1 : g.fin = 4611686018427387904
  · have HE : Hid (moreS g = 31) := moreS_max h1
    go_wp2_with fail
    go_ret
    exact ⟨by rw [HE.out]; rfl, HR.out⟩
  · by_cases h2 : g.fin - g.tail = g.c.lc
    · have HE : Hid (moreS g = 90) := moreS_full h1 h2
      go_wp2_with fail
      refine wp_region_noPanic ?_
      refine wp_region_held_drew (S := fun w' => Below w.heap.size w w') (by kernel_rfl) (below_drawn 1) (fun hHeld => ?_)
      have D : Hid (Below w.heap.size w w.drew) := hHeld
      generalize w.drew = wd at *
      have HC2 : Hid (∀ w', Below w.heap.size w w' → w'.cell? ⟨L, 2, none⟩ = some (.int .i64 g.c.lc)) := fun w' hb => GAt.c2 (LAt.later HG.out hb)
      refine wpAnyH_take (i := 0) (v := ?va1) (by simp; rfl) (by kernel_rfl) (by kernel_rfl) (by kernel_rfl) (fun _ _ _ h => h) (Or.inl ⟨by rfl, ?ya1⟩) hHeld ?ra1
      case ya1 => intro w hSw; clear hSw; go_simp; with_reducible rfl
      simp only [Act.put, List.setIfInBounds_toArray, List.set_cons_zero, List.set_cons_succ]
      refine wpAnyH_take (i := 2) (v := ?va2) (by simp; rfl) (by kernel_rfl) (by kernel_rfl) (by kernel_rfl) (fun _ _ _ h => h) (Or.inl ⟨by rfl, ?ya2⟩) hHeld ?ra2
      case ya2 => intro w hSw; clear hSw; go_simp; with_reducible rfl
      simp only [Act.put, List.setIfInBounds_toArray, List.set_cons_zero, List.set_cons_succ]
      refine wpAnyH_take (i := 3) (v := ?va3) (by simp; rfl) (by kernel_rfl) (by kernel_rfl) (by kernel_rfl) (fun _ _ _ h => h) (Or.inl ⟨by rfl, ?ya3⟩) hHeld ?ra3
      case ya3 => intro w hSw; clear hSw; go_simp; with_reducible rfl
      simp only [Act.put, List.setIfInBounds_toArray, List.set_cons_zero, List.set_cons_succ]
      refine wpAnyH_take (i := 4) (v := ?va4) (by simp; rfl) (by kernel_rfl) (by kernel_rfl) (by kernel_rfl) (fun _ _ _ h => h) (Or.inl ⟨by rfl, ?ya4⟩) hHeld ?ra4
      case ya4 => intro w hSw; clear hSw; go_simp; with_reducible rfl
      simp only [Act.put, List.setIfInBounds_toArray, List.set_cons_zero, List.set_cons_succ]
      refine wpAnyH_take (i := 5) (v := ?va5) (by simp; rfl) (by kernel_rfl) (by kernel_rfl) (by kernel_rfl) (fun _ _ _ h => h) (Or.inl ⟨by rfl, ?ya5⟩) hHeld ?ra5
      case ya5 => intro w hSw; clear hSw; go_simp; with_reducible rfl
      simp only [Act.put, List.setIfInBounds_toArray, List.set_cons_zero, List.set_cons_succ]
      refine wpAnyH_take (i := 6) (v := ?va6) (by simp; rfl) (by kernel_rfl) (by kernel_rfl) (by kernel_rfl) (fun _ _ _ h => h) (Or.inl ⟨by rfl, ?ya6⟩) hHeld ?ra6
      case ya6 => intro w hSw; have z := (HC2.out _ hSw); clear hSw; go_simp; with_reducible rfl
      simp only [Act.put, List.setIfInBounds_toArray, List.set_cons_zero, List.set_cons_succ]
      refine wpAnyH_ready (rs := [1]) (by kernel_rfl) (by simp) ?_
      refine AllReadyH.cons (by simp; rfl) (fun Kc hKc => ?_) AllReadyH.nil
      go_simp
      refine (lused_at (LAt.later HG.out D.out) HO.out).mono ?_
      rintro e wn ⟨rfl, rfl⟩
      refine hKc.out _ _ D.out (fun hHeld => ?_)
      clear hKc Kc
      refine wpAnyH_take (i := 7) (v := ?va7) (by simp; rfl) (by kernel_rfl) (by kernel_rfl) (by kernel_rfl) (fun _ _ _ h => h) (Or.inl ⟨by rfl, ?ya7⟩) hHeld ?ra7
      case ya7 => intro w hSw; clear hSw; go_simp; with_reducible rfl
      simp only [Act.put, List.setIfInBounds_toArray, List.set_cons_zero, List.set_cons_succ]
      clear hHeld
      refine wpAnyH_done (by kernel_rfl) (NoPanic.normal ?_) _
      have hq : (g.fin - g.tail == g.c.lc) = true := by simp [h2]
      go_wp2_with fail
      go_ret
      exact ⟨by rw [HE.out]; rfl, D.out⟩
    · have HE : Hid (moreS g = 0) := moreS_ok h1 h2
      go_wp2_with fail
      refine wp_region_noPanic ?_
      refine wp_region_held_drew (S := fun w' => Below w.heap.size w w') (by kernel_rfl) (below_drawn 1) (fun hHeld => ?_)
      have D : Hid (Below w.heap.size w w.drew) := hHeld
      generalize w.drew = wd at *
      have HC2 : Hid (∀ w', Below w.heap.size w w' → w'.cell? ⟨L, 2, none⟩ = some (.int .i64 g.c.lc)) := fun w' hb => GAt.c2 (LAt.later HG.out hb)
      refine wpAnyH_take (i := 0) (v := ?va8) (by simp; rfl) (by kernel_rfl) (by kernel_rfl) (by kernel_rfl) (fun _ _ _ h => h) (Or.inl ⟨by rfl, ?ya8⟩) hHeld ?ra8
      case ya8 => intro w hSw; clear hSw; go_simp; with_reducible rfl
      simp only [Act.put, List.setIfInBounds_toArray, List.set_cons_zero, List.set_cons_succ]
      refine wpAnyH_take (i := 2) (v := ?va9) (by simp; rfl) (by kernel_rfl) (by kernel_rfl) (by kernel_rfl) (fun _ _ _ h => h) (Or.inl ⟨by rfl, ?ya9⟩) hHeld ?ra9
      case ya9 => intro w hSw; clear hSw; go_simp; with_reducible rfl
      simp only [Act.put, List.setIfInBounds_toArray, List.set_cons_zero, List.set_cons_succ]
      refine wpAnyH_take (i := 3) (v := ?va10) (by simp; rfl) (by kernel_rfl) (by kernel_rfl) (by kernel_rfl) (fun _ _ _ h => h) (Or.inl ⟨by rfl, ?ya10⟩) hHeld ?ra10
      case ya10 => intro w hSw; clear hSw; go_simp; with_reducible rfl
      simp only [Act.put, List.setIfInBounds_toArray, List.set_cons_zero, List.set_cons_succ]
      refine wpAnyH_take (i := 4) (v := ?va11) (by simp; rfl) (by kernel_rfl) (by kernel_rfl) (by kernel_rfl) (fun _ _ _ h => h) (Or.inl ⟨by rfl, ?ya11⟩) hHeld ?ra11
      case ya11 => intro w hSw; clear hSw; go_simp; with_reducible rfl
      simp only [Act.put, List.setIfInBounds_toArray, List.set_cons_zero, List.set_cons_succ]
      refine wpAnyH_take (i := 5) (v := ?va12) (by simp; rfl) (by kernel_rfl) (by kernel_rfl) (by kernel_rfl) (fun _ _ _ h => h) (Or.inl ⟨by rfl, ?ya12⟩) hHeld ?ra12
      case ya12 => intro w hSw; clear hSw; go_simp; with_reducible rfl
      simp only [Act.put, List.setIfInBounds_toArray, List.set_cons_zero, List.set_cons_succ]
      refine wpAnyH_take (i := 6) (v := ?va13) (by simp; rfl) (by kernel_rfl) (by kernel_rfl) (by kernel_rfl) (fun _ _ _ h => h) (Or.inl ⟨by rfl, ?ya13⟩) hHeld ?ra13
      case ya13 => intro w hSw; have z := (HC2.out _ hSw); clear hSw; go_simp; with_reducible rfl
      simp only [Act.put, List.setIfInBounds_toArray, List.set_cons_zero, List.set_cons_succ]
      refine wpAnyH_ready (rs := [1]) (by kernel_rfl) (by simp) ?_
      refine AllReadyH.cons (by simp; rfl) (fun Kc hKc => ?_) AllReadyH.nil
      go_simp
      refine (lused_at (LAt.later HG.out D.out) HO.out).mono ?_
      rintro e wn ⟨rfl, rfl⟩
      refine hKc.out _ _ D.out (fun hHeld => ?_)
      clear hKc Kc
      refine wpAnyH_take (i := 7) (v := ?va14) (by simp; rfl) (by kernel_rfl) (by kernel_rfl) (by kernel_rfl) (fun _ _ _ h => h) (Or.inl ⟨by rfl, ?ya14⟩) hHeld ?ra14
      case ya14 => intro w hSw; clear hSw; go_simp; with_reducible rfl
      simp only [Act.put, List.setIfInBounds_toArray, List.set_cons_zero, List.set_cons_succ]
      clear hHeld
      refine wpAnyH_done (by kernel_rfl) (NoPanic.normal ?_) _
      have hq : (g.fin - g.tail == g.c.lc) = false := by simp [h2]
      go_wp2_with fail
      go_ret
      exact ⟨by rw [HE.out]; rfl, D.out⟩
end Go.Proofs.YtmcpjokbkkfgfaaGreatDoor

/-
  Layer 9, the functions: refuses, Open, Flush, Free, Over.
-/
namespace Go.Proofs.YtmcpjokbkkfgfaaGreatDoor
open Go.RowKit


set_option maxHeartbeats 1000000 in
set_option maxRecDepth 100000 in
theorem wref_nil (s : Sup) (t l : Int) (w : World) : Calls Tryz.prog 23 #[.pointer none, .agg (ccells s).toArray, .int .u64 t, .int .u64 l] w fun e w' => e = .returned (.int .i64 1) ∧ Below w.heap.size w w' := by
  have HB : Hid (Below w.heap.size w (w.alloc (.cells (ccells s).toArray 23))) := below_alloc w _
  go_enter Tryz.func23, Tryz.ntmps23
  go_wp2
  go_ret
  exact ⟨rfl, HB.out⟩
set_option maxHeartbeats 1000000 in
set_option maxRecDepth 100000 in
theorem wref_at (s : Sup) (t l : Int) (ht0 : 0 ≤ t) (hl0 : 0 ≤ l) {w : World} {S : Nat → Prop} {p n : Nat} {d : List Int} {ws : List Wr} (h : Dsk w S p n d ws) :
    Calls Tryz.prog 23 #[.pointer (some ⟨p, 0, none⟩), .agg (ccells s).toArray, .int .u64 t, .int .u64 l] w fun e w' => e = .returned (.int .i64 (opnS s n t l)) ∧ Below w.heap.size w w' := by
  have L1 : Hid (_) := CAt.load23 (LAt.new 23 w (ccells s))
  have HA : Hid (CAt (w.alloc (.cells (ccells s).toArray 23)) w.heap.size s) := LAt.new 23 w (ccells s)
  have HB : Hid (Below w.heap.size w (w.alloc (.cells (ccells s).toArray 23))) := below_alloc w _
  have HD : Hid (Dsk w S p n d ws) := h
  clear h
  go_enter Tryz.func23, Tryz.ntmps23
  go_wp2_with ((with_reducible refine at_ops ?_); (refine wpList_load_is (by rfl) 23 rfl rfl L1.out ?_); simp only [Act.put, List.setIfInBounds_toArray, List.set_cons_zero, List.set_cons_succ])
  refine (config_any s _).mono ?_
  rintro e w1 ⟨rfl, b1⟩
  have HA1 : Hid (CAt w1 w.heap.size s) := LAt.later HA.out b1
  have HB1 : Hid (Below w.heap.size w w1) := below_then HB.out b1
  have HD1 : Hid (Dsk w1 S p n d ws) := HD.out.later HB1.out
  clear b1 HA HB L1 HD
  by_cases hc : MayC s
  · rw [cfg_yes s hc]
    have HC : Hid (MayC s) := hc
    obtain ⟨⟨a1, a2⟩, ⟨a3, a4⟩, -⟩ := hc
    obtain ⟨bl, hbl⟩ : ∃ x, x = s.bl := ⟨_, rfl⟩
    obtain ⟨lc, hlc⟩ : ∃ x, x = s.lc := ⟨_, rfl⟩
    have k1 : IntKind.i64.wrap (1 + bl) = 1 + bl := by rw [IntKind.wrap_i64]; omega
    have k2 : IntKind.i64.wrap (1 + bl + lc) = 1 + bl + lc := by rw [IntKind.wrap_i64]; omega
    have HE : Hid ((¬ (n : Int) = 1 + bl + lc → opnS s n t l = 40) ∧ ((n : Int) = 1 + bl + lc → (t > 4611686018427387904 ∨ l > 4611686018427387904) → opnS s n t l = 31) ∧ ((n : Int) = 1 + bl + lc → ¬ (t > 4611686018427387904 ∨ l > 4611686018427387904) → l = 0 → opnS s n t l = 2) ∧ ((n : Int) = 1 + bl + lc → ¬ (t > 4611686018427387904 ∨ l > 4611686018427387904) → ¬ l = 0 → opnS s n t l = 0)) := by
      rw [hbl, hlc]; exact ⟨fun h => opnS_len t l HC.out h, fun h h2 => opnS_wrap HC.out h h2, fun h h2 h3 => opnS_life HC.out h h2 h3, fun h h2 h3 => opnS_ok HC.out h h2 h3⟩
    have HC0 : Hid (∀ w', CAt w' w.heap.size s → w'.cell? ⟨w.heap.size, 0, none⟩ = some (.int .i64 bl) ∧ w'.cell? ⟨w.heap.size, 1, none⟩ = some (.int .i64 lc)) := by rw [hbl, hlc]; exact fun w' h => ⟨CAt.c0 h, CAt.c1 h⟩
    clear hbl hlc a1 a2 a3 a4
    go_wp2_with fail
    refine wp_region_noPanic ?_
    refine wp_region_held_drew (S := fun w' => Below w1.heap.size w1 w') (by kernel_rfl) (below_drawn 1) (fun hHeld => ?_)
    have D1 : Hid (Below w1.heap.size w1 w1.drew) := hHeld
    generalize w1.drew = wd at *
    refine wpAnyH_take (i := 0) (v := ?va1) (by simp; rfl) (by kernel_rfl) (by kernel_rfl) (by kernel_rfl) (fun _ _ _ h => h) (Or.inl ⟨by rfl, ?ya1⟩) hHeld ?ra1
    case ya1 => intro w hSw; clear hSw; go_simp; with_reducible rfl
    simp only [Act.put, List.setIfInBounds_toArray, List.set_cons_zero, List.set_cons_succ]
    refine wpAnyH_take (i := 2) (v := ?va2) (by simp; rfl) (by kernel_rfl) (by kernel_rfl) (by kernel_rfl) (fun _ _ _ h => h) (Or.inl ⟨by rfl, ?ya2⟩) hHeld ?ra2
    case ya2 => intro w hSw; clear hSw; go_simp; with_reducible rfl
    simp only [Act.put, List.setIfInBounds_toArray, List.set_cons_zero, List.set_cons_succ]
    refine wpAnyH_take (i := 3) (v := ?va3) (by simp; rfl) (by kernel_rfl) (by kernel_rfl) (by kernel_rfl) (fun _ _ _ h => h) (Or.inl ⟨by rfl, ?ya3⟩) hHeld ?ra3
    case ya3 => intro w hSw; have z := (HC0.out _ (LAt.later HA1.out hSw)).1; clear hSw; go_simp; with_reducible rfl
    simp only [Act.put, List.setIfInBounds_toArray, List.set_cons_zero, List.set_cons_succ]
    refine wpAnyH_take (i := 4) (v := ?va4) (by simp; rfl) (by kernel_rfl) (by kernel_rfl) (by kernel_rfl) (fun _ _ _ h => h) (Or.inl ⟨by rfl, ?ya4⟩) hHeld ?ra4
    case ya4 => intro w hSw; clear hSw; go_simp; with_reducible rfl
    simp only [Act.put, List.setIfInBounds_toArray, List.set_cons_zero, List.set_cons_succ]
    refine wpAnyH_take (i := 5) (v := ?va5) (by simp; rfl) (by kernel_rfl) (by kernel_rfl) (by kernel_rfl) (fun _ _ _ h => h) (Or.inl ⟨by rfl, ?ya5⟩) hHeld ?ra5
    case ya5 => intro w hSw; clear hSw; go_simp; with_reducible rfl
    simp only [Act.put, List.setIfInBounds_toArray, List.set_cons_zero, List.set_cons_succ]
    refine wpAnyH_take (i := 6) (v := ?va6) (by simp; rfl) (by kernel_rfl) (by kernel_rfl) (by kernel_rfl) (fun _ _ _ h => h) (Or.inl ⟨by rfl, ?ya6⟩) hHeld ?ra6
    case ya6 => intro w hSw; have z := (HC0.out _ (LAt.later HA1.out hSw)).2; clear hSw; go_simp; with_reducible rfl
    simp only [Act.put, List.setIfInBounds_toArray, List.set_cons_zero, List.set_cons_succ]
    refine wpAnyH_take (i := 7) (v := ?va7) (by simp; rfl) (by kernel_rfl) (by kernel_rfl) (by kernel_rfl) (fun _ _ _ h => h) (Or.inl ⟨by rfl, ?ya7⟩) hHeld ?ra7
    case ya7 => intro w hSw; clear hSw; go_simp; with_reducible rfl
    simp only [Act.put, List.setIfInBounds_toArray, List.set_cons_zero, List.set_cons_succ]
    refine wpAnyH_ready (rs := [1]) (by kernel_rfl) (by simp) ?_
    refine AllReadyH.cons (by simp; rfl) (fun Kc hKc => ?_) AllReadyH.nil
    go_simp
    refine (len_any (HD1.out.later D1.out)).mono ?_
    rintro e wn ⟨rfl, rfl⟩
    refine hKc.out _ _ D1.out (fun hHeld => ?_)
    clear hKc Kc
    refine wpAnyH_take (i := 8) (v := ?va8) (by simp; rfl) (by kernel_rfl) (by kernel_rfl) (by kernel_rfl) (fun _ _ _ h => h) (Or.inl ⟨by rfl, ?ya8⟩) hHeld ?ra8
    case ya8 => intro w hSw; clear hSw; go_simp; with_reducible rfl
    simp only [Act.put, List.setIfInBounds_toArray, List.set_cons_zero, List.set_cons_succ]
    have HB2 : Hid (Below w.heap.size w wd) := below_then HB1.out D1.out
    clear hHeld D1 HD1 HC0
    refine wpAnyH_done (by kernel_rfl) (NoPanic.normal ?_) _
    by_cases he : (n : Int) = 1 + bl + lc
    · have hq : ((n : Int) != 1 + bl + lc) = false := by rw [he]; simp
      by_cases hM : t > 4611686018427387904 ∨ l > 4611686018427387904
      · have HR : Hid (_) := HE.out.2.1 he hM
        clear he HE
        by_cases hM1 : 4611686018427387904 < t
        · clear hM
          go_wp2_with fail
          go_ret
          exact ⟨by rw [HR.out]; rfl, HB2.out⟩
        · have hM2 : 4611686018427387904 < l := by omega
          clear hM
          go_wp2_with fail
          go_ret
          exact ⟨by rw [HR.out]; rfl, HB2.out⟩
      · have hM1 : ¬ 4611686018427387904 < t := by omega
        have hM2 : ¬ 4611686018427387904 < l := by omega
        by_cases h0 : l = 0
        · have HR : Hid (_) := HE.out.2.2.1 he hM h0
          clear he HE hM
          subst h0
          go_wp2_with fail
          go_ret
          exact ⟨by rw [HR.out]; rfl, HB2.out⟩
        · have HR : Hid (_) := HE.out.2.2.2 he hM h0
          clear he HE hM
          go_wp2_with fail
          go_ret
          exact ⟨by rw [HR.out]; rfl, HB2.out⟩
    · have hq : ((n : Int) != 1 + bl + lc) = true := by simp [he]
      have HR : Hid (_) := HE.out.1 he
      clear he HE
      go_wp2_with fail
      go_ret
      exact ⟨by rw [HR.out]; rfl, HB2.out⟩
  · rw [cfg_no s hc]
    have HR : Hid (opnS s n t l = 3) := opnS_no _ _ _ hc
    clear hc
    go_wp2_with fail
    go_ret
    exact ⟨by rw [HR.out]; rfl, HB1.out⟩

theorem Kept.drewN {S : Nat → Prop} {a w : World} (h : Kept S a w) (n : Nat) : Kept S a (w.drewN n) := ⟨h.os, h.tape, h.output, h.size, h.block⟩
def plL : List (Nat × Nat) := [(0, 1), (1, 5), (6, 1), (7, 1), (8, 1), (9, 1), (10, 1), (11, 1)]
theorem placesL : placesOf Tryz.prog 82 = some plL := by kernel_rfl
def lg0 : Lg := ⟨sup0, 0, 0, 0, 0, 0, 0⟩
theorem zeroL : (Tryz.prog.info? 82).bind (·.zero) = some (.agg (lcells none lg0).toArray) := by kernel_rfl
theorem sizeL : (Tryz.prog.info? 82).map (·.size) = some 12 := by kernel_rfl
theorem fillL (dp : Option Addr) (s : Sup) (t l : Int) : Instr.fill (plL.toArray[·]?) (lcells none lg0).toArray [(0, .pointer dp), (1, .agg (ccells s).toArray), (2, .int .u64 l), (3, .int .u64 t), (4, .int .u64 t), (5, .int .u64 t), (7, .int .i64 (-1))] = some (lcells dp (opnG s t l)).toArray := by
  rw [fill_step 0 1 0 rfl _ [.pointer dp] _ rfl rfl (by simp [lcells]), fill_step 1 5 1 rfl _ (ccells s) _ rfl rfl (by simp [lcells]), fill_step 6 1 2 rfl _ [.int .u64 l] _ rfl rfl (by simp [lcells, ccells]), fill_step 7 1 3 rfl _ [.int .u64 t] _ rfl rfl (by simp [lcells, ccells]), fill_step 8 1 4 rfl _ [.int .u64 t] _ rfl rfl (by simp [lcells, ccells]), fill_step 9 1 5 rfl _ [.int .u64 t] _ rfl rfl (by simp [lcells, ccells]), fill_step 11 1 7 rfl _ [.int .i64 (-1)] _ rfl rfl (by simp [lcells, ccells])]
  rfl
theorem buildL (w : World) (dp : Option Addr) (s : Sup) (t l : Int) : (Instr.build 82 #[(0, .pointer dp), (1, .agg (ccells s).toArray), (2, .int .u64 l), (3, .int .u64 t), (4, .int .u64 t), (5, .int .u64 t), (7, .int .i64 (-1))]).run Tryz.prog w = .ok (.agg (lcells dp (opnG s t l)).toArray) w :=
  run_build w 82 _ _ ((built_of 82 _ _ _ placesL zeroL).trans (fillL dp s t l))
theorem allocL (w : World) : (Instr.alloc 82 true (.tuple #[])).run Tryz.prog w = .ok (.pointer (some ⟨w.heap.size, 0, none⟩)) (w.alloc (.cells (lcells none lg0).toArray 82)) := by
  simp [Instr.alloc, zv 82 _ zeroL w, newVar, newRow, Value.cells]
theorem GAt.loadL {w : World} {L : Nat} {dp : Option Addr} {g : Lg} (h : GAt w L dp g) : (Instr.loadAt 82 (.pointer (some ⟨L, 0, none⟩))).run Tryz.prog w = .ok (.agg (lcells dp g).toArray) w :=
  run_loadAt_mid w L 0 82 (lcells dp g) _ (LAt.range h) Tryz.underlying82 rfl (by rw [sizeL]; rfl)
theorem store_newL (w : World) (dp : Option Addr) (g : Lg) : (Instr.storeAt 82 (.pointer (some ⟨w.heap.size, 0, none⟩)) (.agg (lcells dp g).toArray)).run Tryz.prog (w.alloc (.cells (lcells none lg0).toArray 82)) = .ok () (w.alloc (.cells (lcells dp g).toArray 82)) := by
  rw [LAt.store (ds := lcells dp g) (LAt.new 82 w (lcells none lg0)) (by rw [sizeL]; rfl) rfl (lcells_all dp g), setRow_alloc]

set_option maxHeartbeats 1000000 in
set_option maxRecDepth 100000 in
theorem open_nil (s : Sup) (t l : Int) (w : World) : Calls Tryz.prog 7 #[.pointer none, .agg (ccells s).toArray, .int .u64 t, .int .u64 l] w fun e w' => e = .returned (.tuple #[.pointer none, .int .i64 1]) ∧ Below w.heap.size w w' := by
  have HB : Hid (Below w.heap.size w (w.alloc (.cells (ccells s).toArray 23))) := below_alloc w _
  have L1 : Hid (_) := CAt.load23 (LAt.new 23 w (ccells s))
  go_enter Tryz.func7, Tryz.ntmps7
  go_wp2_with ((with_reducible refine at_ops ?_); (refine wpList_load_is (by rfl) 23 rfl rfl L1.out ?_); simp only [Act.put, List.setIfInBounds_toArray, List.set_cons_zero, List.set_cons_succ])
  refine (wref_nil s t l _).mono ?_
  rintro e w1 ⟨rfl, b1⟩
  have HB1 : Hid (Below w.heap.size w w1) := below_then HB.out b1
  clear b1 HB L1
  go_wp2_with fail
  go_ret2
  exact ⟨rfl, HB1.out⟩
set_option maxHeartbeats 1000000 in
set_option maxRecDepth 100000 in
theorem open_no (s : Sup) (t l : Int) (ht0 : 0 ≤ t) (hl0 : 0 ≤ l) {w : World} {S : Nat → Prop} {p n : Nat} {d : List Int} {ws : List Wr} (h : Dsk w S p n d ws) (hr : ¬ opnS s n t l = 0) :
    Calls Tryz.prog 7 #[.pointer (some ⟨p, 0, none⟩), .agg (ccells s).toArray, .int .u64 t, .int .u64 l] w fun e w' => e = .returned (.tuple #[.pointer none, .int .i64 (opnS s n t l)]) ∧ Below w.heap.size w w' := by
  have HB : Hid (Below w.heap.size w (w.alloc (.cells (ccells s).toArray 23))) := below_alloc w _
  have L1 : Hid (_) := CAt.load23 (LAt.new 23 w (ccells s))
  have HD : Hid (Dsk (w.alloc (.cells (ccells s).toArray 23)) S p n d ws) := h.later HB.out
  clear h
  go_enter Tryz.func7, Tryz.ntmps7
  go_wp2_with ((with_reducible refine at_ops ?_); (refine wpList_load_is (by rfl) 23 rfl rfl L1.out ?_); simp only [Act.put, List.setIfInBounds_toArray, List.set_cons_zero, List.set_cons_succ])
  refine (wref_at s t l ht0 hl0 HD.out).mono ?_
  rintro e w1 ⟨rfl, b1⟩
  have HB1 : Hid (Below w.heap.size w w1) := below_then HB.out b1
  clear b1 HB L1 HD
  obtain ⟨q, hq0⟩ : ∃ q, q = opnS s n t l := ⟨_, rfl⟩
  have HQ : Hid (q = opnS s n t l) := hq0
  rw [← hq0] at hr ⊢
  have hq : (q != 0) = true := by simp [hr]
  clear hq0
  go_wp2_with fail
  go_ret2
  exact ⟨by rw [← HQ.out]; rfl, HB1.out⟩
set_option maxHeartbeats 1000000 in
set_option maxRecDepth 100000 in
theorem open_ok (s : Sup) (t l : Int) (ht0 : 0 ≤ t) (hl0 : 0 ≤ l) {w : World} {S : Nat → Prop} {p n : Nat} {d : List Int} {ws : List Wr} (h : Dsk w S p n d ws) (hr : opnS s n t l = 0) :
    Calls Tryz.prog 7 #[.pointer (some ⟨p, 0, none⟩), .agg (ccells s).toArray, .int .u64 t, .int .u64 l] w fun e w' => ∃ L, e = .returned (.tuple #[.pointer (some ⟨L, 0, none⟩), .int .i64 0]) ∧ w.heap.size ≤ L ∧ LD w' (More S w) L p d ws (opnG s t l) ∧ Below w.heap.size w w' := by
  have HB : Hid (Below w.heap.size w (w.alloc (.cells (ccells s).toArray 23))) := below_alloc w _
  have L1 : Hid (_) := CAt.load23 (LAt.new 23 w (ccells s))
  have HA : Hid (CAt (w.alloc (.cells (ccells s).toArray 23)) w.heap.size s) := LAt.new 23 w (ccells s)
  have HD : Hid (Dsk w S p n d ws) := h
  have HR : Hid (opnS s n t l = 0) := hr
  clear h hr
  go_enter Tryz.func7, Tryz.ntmps7
  go_wp2_with ((with_reducible refine at_ops ?_); (refine wpList_load_is (by rfl) 23 rfl rfl L1.out ?_); simp only [Act.put, List.setIfInBounds_toArray, List.set_cons_zero, List.set_cons_succ])
  refine (wref_at s t l ht0 hl0 (HD.out.later HB.out)).mono ?_
  rintro e w1 ⟨rfl, b1⟩
  have HB1 : Hid (Below w.heap.size w w1) := below_then HB.out b1
  have HA1 : Hid (CAt w1 w.heap.size s) := LAt.later HA.out b1
  have L2 : Hid (_) := CAt.load23 HA1.out
  have B2 : Hid (_) := buildL w1 (some ⟨p, 0, none⟩) s t l
  rw [HR.out]
  clear b1 HB L1 HA
  go_wp2_with ((with_reducible refine at_ops ?_); (first | (refine wpList_load_is (by rfl) 23 rfl rfl L2.out ?_) | (refine wpList_build_is (vs := [(0, .pointer (some ⟨p, 0, none⟩)), (1, .agg (ccells s).toArray), (2, .int .u64 l), (3, .int .u64 t), (4, .int .u64 t), (5, .int .u64 t), (7, .int .i64 (-1))]) (by rfl) 82 rfl (by rfl) B2.out ?_)); simp only [Act.put, List.setIfInBounds_toArray, List.set_cons_zero, List.set_cons_succ])
  go_ret2
  have hb2 := below_alloc w1 (.cells (lcells (some ⟨p, 0, none⟩) (opnG s t l)).toArray 82)
  have hn : n = (opnG s t l).sz := by
    have h1 := (opnS_zero HR.out).2.1
    have h2 := (opnG_ok HR.out ht0 hl0).sz_is
    have h3 : (opnG s t l).c = s := rfl
    rw [h3] at h2
    omega
  have hb3 := below_then HB1.out hb2
  have hs := HB1.out.size
  refine ⟨w1.heap.size, rfl, hs, ⟨LAt.new 82 w1 _, ?_, .inr hs, opnG_ok HR.out ht0 hl0⟩, hb3⟩
  rw [← hn]
  have hd := HD.out
  obtain ⟨q, cap, v, hd⟩ := hd
  refine ⟨q, cap, v, hd.same (fun k hk hs' => ⟨.inl hs', by omega⟩) (fun k hk _ => hb3.block k hk)⟩

set_option maxHeartbeats 1000000 in
set_option maxRecDepth 100000 in
theorem wflush_nil (w : World) : Calls Tryz.prog 15 #[.pointer none] w fun e w' => e = .returned (.tuple #[.int .i64 0, .int .i64 1]) ∧ w = w' := by
  go_enter Tryz.func15, Tryz.ntmps15
  go_wp2_with fail
  refine (lacks_nil w).mono ?_
  rintro e w1 ⟨rfl, rfl⟩
  go_wp2_with fail
  go_ret2
  exact ⟨rfl, rfl⟩
set_option maxHeartbeats 1000000 in
set_option maxRecDepth 100000 in
theorem wflush_none {w : World} {L : Nat} {g : Lg} (h : GAt w L none g) : Calls Tryz.prog 15 #[.pointer (some ⟨L, 0, none⟩)] w fun e w' => e = .returned (.tuple #[.int .i64 0, .int .i64 1]) ∧ w = w' := by
  go_enter Tryz.func15, Tryz.ntmps15
  go_wp2_with fail
  refine (lacks_none h).mono ?_
  rintro e w1 ⟨rfl, rfl⟩
  go_wp2_with fail
  go_ret2
  exact ⟨rfl, rfl⟩
set_option maxHeartbeats 1000000 in
set_option maxRecDepth 100000 in
theorem wflush_at {w : World} {S : Nat → Prop} {L p : Nat} {d : List Int} {ws : List Wr} {g : Lg} (h : LD w S L p d ws g) (hk : ws.length ≤ 100000) : Calls Tryz.prog 15 #[.pointer (some ⟨L, 0, none⟩)] w fun e w' => e = .returned (.tuple #[.int .i64 ws.length, .int .i64 0]) ∧ LD w' S L p (settle (fun _ => true) ws d) [] g ∧ Kept S w w' := by
  have HG : Hid (LD w S L p d ws g) := h
  have c0 := GAt.c0 h.log
  clear h
  go_enter Tryz.func15, Tryz.ntmps15
  go_wp2_with fail
  refine (lacks_some HG.out.log).mono ?_
  rintro e w1 ⟨rfl, rfl⟩
  go_wp2_with fail
  refine (flush_any HG.out.dsk hk).mono ?_
  rintro e w1 ⟨rfl, hd, hkp⟩
  have HX : Hid (_) := HG.out.flushed hd hkp
  clear hd hkp c0
  go_wp2_with fail
  go_ret2
  exact ⟨rfl, HX.out.1, HX.out.2⟩
set_option maxHeartbeats 1000000 in
set_option maxRecDepth 100000 in
theorem free_nil (w : World) : Calls Tryz.prog 17 #[.pointer none] w fun e w' => e = .returned (.tuple #[.int .i64 0, .int .i64 1]) ∧ w = w' := by
  go_enter Tryz.func17, Tryz.ntmps17
  go_wp2_with fail
  refine (wflush_nil w).mono ?_
  rintro e w1 ⟨rfl, rfl⟩
  go_wp2_with fail
  go_ret2
  exact ⟨rfl, rfl⟩
set_option maxHeartbeats 1000000 in
set_option maxRecDepth 100000 in
theorem free_none {w : World} {L : Nat} {g : Lg} (h : GAt w L none g) : Calls Tryz.prog 17 #[.pointer (some ⟨L, 0, none⟩)] w fun e w' => e = .returned (.tuple #[.int .i64 0, .int .i64 1]) ∧ w = w' := by
  go_enter Tryz.func17, Tryz.ntmps17
  go_wp2_with fail
  refine (wflush_none h).mono ?_
  rintro e w1 ⟨rfl, rfl⟩
  go_wp2_with fail
  go_ret2
  exact ⟨rfl, rfl⟩
set_option maxHeartbeats 1000000 in
set_option maxRecDepth 100000 in
theorem free_at {w : World} {S : Nat → Prop} {L p : Nat} {d : List Int} {ws : List Wr} {g : Lg} (h : LD w S L p d ws g) (hk : ws.length ≤ 100000) : Calls Tryz.prog 17 #[.pointer (some ⟨L, 0, none⟩)] w fun e w' => e = .returned (.tuple #[.int .i64 (g.mark - g.tail), .int .i64 0]) ∧ LD w' S L p (settle (fun _ => true) ws d) [] (frG g) ∧ Kept S w w' := by
  have hn : 0 ≤ g.mark - g.tail ∧ g.mark - g.tail ≤ 64 := by have := h.ok.tm; have := h.ok.mf; have := h.ok.us; have := h.ok.cf.2.1; omega
  go_enter Tryz.func17, Tryz.ntmps17
  go_wp2_with fail
  refine (wflush_at h hk).mono ?_
  rintro e w1 ⟨rfl, h1, hkp⟩
  have HG : Hid (LD w1 S L p (settle (fun _ => true) ws d) [] g) := h1
  have c7 := GAt.c7 h1.log
  have c9 := GAt.c9 h1.log
  have cf := GAt.free h1.log 7
  have HK : Hid (Kept S w w1) := hkp
  have HL : Hid (L < w.heap.size → S L) := fun _ => h.sl
  have k1 : IntKind.u64.wrap (g.mark - g.tail) = g.mark - g.tail := G.wrap_u hn.1 (by omega)
  have k2 : RowKit.wrap64 (g.mark - g.tail) = g.mark - g.tail := by have := IntKind.wrap_i64 (g.mark - g.tail); unfold RowKit.wrap64; omega
  clear h h1 hkp
  go_wp2_with fail
  go_quiet (fail)
  go_wp2_with fail
  go_ret2
  refine ⟨rfl, ?_, ?_⟩
  · have hd := HG.out.later (below_drawn nq)
    exact hd.set 7 _ (g' := frG g) (GAt.setT hd.log g.mark) rfl (frG_ok hd.ok)
  · exact (Kept.drewN HK.out nq).setCell (p := ⟨L, 7, none⟩) HL.out _
set_option maxHeartbeats 1000000 in
set_option maxRecDepth 100000 in
theorem over_nil (v : Value) (w : World) : Calls Tryz.prog 33 #[.pointer none, v] w fun e w' => e = .returned (.pointer none) ∧ w = w' := by
  go_enter Tryz.func33, Tryz.ntmps33
  go_wp2
  go_ret
  exact ⟨rfl, rfl⟩
set_option maxHeartbeats 1000000 in
set_option maxRecDepth 100000 in
theorem over_at {w : World} {L : Nat} {dp : Option Addr} {g : Lg} (h : GAt w L dp g) (q : Option Addr) : Calls Tryz.prog 33 #[.pointer (some ⟨L, 0, none⟩), .pointer q] w fun e w' => ∃ K, e = .returned (.pointer (some ⟨K, 0, none⟩)) ∧ w.heap.size ≤ K ∧ GAt w' K q g ∧ Below w.heap.size w w' := by
  have L1 : Hid (_) := GAt.loadL h
  have A1 : Hid (_) := allocL w
  have T1 : Hid (_) := store_newL w dp g
  have HG : Hid (GAt (w.alloc (.cells (lcells dp g).toArray 82)) w.heap.size dp g) := LAt.new 82 w _
  have cf := GAt.free HG.out 0
  have c0 := GAt.c0 HG.out
  have HB : Hid (Below w.heap.size w (w.alloc (.cells (lcells dp g).toArray 82))) := below_alloc w _
  clear h
  go_enter Tryz.func33, Tryz.ntmps33
  go_wp2_with ((with_reducible refine at_ops ?_); (first | (refine wpList_load_is (by rfl) 82 rfl rfl L1.out ?_) | (refine wpList_alloc_is (by rfl) 82 rfl A1.out ?_) | (refine wpList_store_is (by rfl) 82 rfl rfl rfl T1.out ?_)); simp only [Act.put, List.setIfInBounds_toArray, List.set_cons_zero, List.set_cons_succ])
  go_ret
  exact ⟨w.heap.size, rfl, Nat.le_refl _, LAt.new 82 w (lcells q g), below_alloc w _⟩
end Go.Proofs.YtmcpjokbkkfgfaaGreatDoor

/-
  Layer 9, the functions: add.
-/
namespace Go.Proofs.YtmcpjokbkkfgfaaGreatDoor
open Go.RowKit


theorem Kept.wider {S T : Nat → Prop} {a b : World} (h : Kept S a b) (hs : ∀ k, k < a.heap.size → S k → T k) : Kept T a b :=
  ⟨h.os, h.tape, h.output, h.size, fun k hk ht => h.block k hk fun hs' => ht (hs k hk hs')⟩
theorem kept_set (w : World) (L j : Nat) (v : Value) : Kept (fun k => k = L) w (w.setCell ⟨L, j, none⟩ v) := ⟨rfl, rfl, rfl, by simp [World.setCell], fun k _ hk => heap_setCell_other w ⟨L, j, none⟩ k v hk⟩
/-- a log that was stored into -/
theorem LD.of {w w' : World} {S : Nat → Prop} {L p : Nat} {d : List Int} {ws : List Wr} {g g' : Lg} (h : LD w S L p d ws g) (hk : Kept (fun k => k = L) w w') (hg : GAt w' L (some ⟨p, 0, none⟩) g') (hc : g'.c = g.c) (ok : g'.Ok) : LD w' S L p d ws g' := by
  have hz : g'.sz = g.sz := by unfold Lg.sz; rw [hc]
  refine ⟨hg, ?_, h.sl, ok⟩
  rw [hz]
  exact h.dsk.kept hk (fun k s t => s.2 t)
theorem write_at {w : World} {S : Nat → Prop} {p n : Nat} {d : List Int} {ws : List Wr} (h : Dsk w S p n d ws) (i : Int) (h0 : 0 ≤ i) (h1 : i < n) (a : Option Addr) (c : Nat) (b : List Int) (hb : BIn w a 64 b) (hk : ws.length ≤ 100000) : Calls Tryz.prog 46 #[.pointer (some ⟨p, 0, none⟩), .int .i64 i, .slice a 64 c] w fun e w' => e = .returned (.int .i64 0) ∧ Dsk w' (More S w) p n d (ws ++ [⟨i.toNat, b⟩]) ∧ Kept S w w' := by
  have e0 : ((i.toNat : Nat) : Int) = i := by omega
  have := write_good h i.toNat (by omega) a c b hb hk
  rw [e0] at this
  exact this
theorem read_at {w : World} {S : Nat → Prop} {p n : Nat} {d : List Int} {ws : List Wr} (h : Dsk w S p n d ws) (i : Int) (h0 : 0 ≤ i) (h1 : i < n) : Calls Tryz.prog 41 #[.pointer (some ⟨p, 0, none⟩), .int .i64 i] w fun e w' => ∃ q c, e = .returned (.tuple #[.slice q 64 c, .int .i64 0]) ∧ BIn w' q 64 (newest ws d i.toNat) ∧ 64 ≤ c ∧ Below w.heap.size w w' := by
  have e0 : ((i.toNat : Nat) : Int) = i := by omega
  have := read_good h i.toNat (by omega)
  rw [e0] at this
  obtain ⟨q', cap, v', hp⟩ := h
  refine this.mono ?_
  rintro e w' ⟨v, rfl, hown, hb⟩
  obtain ⟨q, c, rfl, hr, hc, _⟩ := own_in hown (newk_bytes hp.db hp.fit _)
  exact ⟨q, c, rfl, hr, hc, hb⟩

set_option maxHeartbeats 2000000 in
set_option maxRecDepth 100000 in
theorem add_low {w : World} {S : Nat → Prop} {L p : Nat} {d : List Int} {ws : List Wr} {g : Lg} (h : LD w S L p d ws g) (hS : ∀ k, S k → k < w.heap.size) (hk : ws.length ≤ 100000) (ht : Tab w) (r : R.Rec) (hv : r.val.length = 32) (hw : R.Rec.Wf ⟨r.kind, g.fin, r.block, r.val, r.images⟩) (hm : R.may ⟨r.kind, g.fin, r.block, r.val, r.images⟩ = true) (hf : g.fin < 4611686018427387904) :
    Calls Tryz.prog 39 #[.pointer (some ⟨L, 0, none⟩), .agg (R.rcells r).toArray] w fun e w' => e = .returned (.tuple #[.int .u64 g.fin, .int .i64 0]) ∧ Dsk w' (More (fun k => S k ∧ k ≠ L) w) p g.sz d (ws ++ [⟨(secN g g.fin).toNat, R.encS ⟨r.kind, g.fin, r.block, r.val, r.images⟩⟩]) ∧ GAt w' L (some ⟨p, 0, none⟩) (addG g) ∧ Kept S w w' := by
  obtain ⟨r', hr'⟩ : ∃ x : R.Rec, x = ⟨r.kind, g.fin, r.block, r.val, r.images⟩ := ⟨_, rfl⟩
  rw [← hr'] at hw hm ⊢
  have hlr : r'.val.length = 32 := by rw [hr']; exact hv
  have hpos : r'.pos = g.fin := by rw [hr']
  have hset : (R.rcells r).set 1 (.int .u64 g.fin) = R.rcells r' := by rw [hr']; rfl
  have hget : (R.rcells r)[1]? = some (.int .u64 r.pos) := rfl
  obtain ⟨w1, hw1⟩ : ∃ x, x = w.alloc (.cells (R.rcells r').toArray 62) := ⟨_, rfl⟩
  have ew := hw1.symm
  have HG : Hid (LD w S L p d ws g) := h
  have HS : Hid (∀ k, S k → k < w.heap.size) := hS
  have HW : Hid (r'.Wf ∧ R.may r' = true) := ⟨hw, hm⟩
  have HT : Hid (Tab w) := ht
  have B1 : Hid (Below w.heap.size w w1) := by rw [hw1]; exact below_alloc w _
  have A1 : Hid (R.RAt 62 w1 w.heap.size r') := by rw [hw1]; exact R.RAt.new 62 w r'
  have L1 : Hid (_) := R.RAt.load31 A1.out hlr
  have hf0 : 0 ≤ g.fin := by have := h.ok.t0; have := h.ok.tm; have := h.ok.mf; omega
  have hLlt := LAt.lt h.log
  have c8 := GAt.c8 h.log
  clear h hS hw1 hr' ht hw hm
  go_enter Tryz.func39, Tryz.ntmps39
  go_wp2_with ((with_reducible refine at_ops ?_); (refine wpList_load_is (by rfl) 62 rfl rfl L1.out ?_); simp only [Act.put, List.setIfInBounds_toArray, List.set_cons_zero, List.set_cons_succ])
  refine (R.encode_good r' HW.out.1 HW.out.2 w1 (HT.out.later B1.out).half).mono ?_
  rintro e w2 ⟨q2, c2', rfl, m2⟩
  have B2 : Hid (Below w.heap.size w w2) := below_then B1.out m2.below
  have HG2 : Hid (LD w2 S L p d ws g) := HG.out.later B2.out
  have A2 : Hid (R.RAt 62 w2 w.heap.size r') := R.RAt.later A1.out m2.below
  have X2 : Hid (BIn w2 q2 64 (R.encS r')) := m2.read
  clear m2 A1 L1 ew hget hset c8
  go_wp2_with fail
  refine wp_region_noPanic ?_
  refine wp_region_held_drew (S := fun w' => w'.cell? ⟨L, 0, none⟩ = some (.pointer (some ⟨p, 0, none⟩)) ∧ w'.cell? ⟨w.heap.size, 1, none⟩ = some (.int .u64 g.fin)) (by kernel_rfl) (by
    refine ⟨GAt.c0 HG2.out.log, ?_⟩
    rw [← hpos]
    exact A2.out.c1) (fun hHeld => ?_)
  have D2 : Hid (Below w2.heap.size w2 w2.drew) := below_drawn 1
  generalize w2.drew = wd at *
  refine wpAnyH_take (i := 0) (v := ?va1) (by simp; rfl) (by kernel_rfl) (by kernel_rfl) (by kernel_rfl) (fun _ _ _ h => h) (Or.inl ⟨by rfl, ?ya1⟩) hHeld ?ra1
  case ya1 => intro w hSw; clear hSw; go_simp; with_reducible rfl
  simp only [Act.put, List.setIfInBounds_toArray, List.set_cons_zero, List.set_cons_succ]
  refine wpAnyH_take (i := 1) (v := ?va2) (by simp; rfl) (by kernel_rfl) (by kernel_rfl) (by kernel_rfl) (fun _ _ _ h => h) (Or.inl ⟨by rfl, ?ya2⟩) hHeld ?ra2
  case ya2 => intro w hSw; clear hSw; go_simp; with_reducible rfl
  simp only [Act.put, List.setIfInBounds_toArray, List.set_cons_zero, List.set_cons_succ]
  refine wpAnyH_take (i := 2) (v := ?va3) (by simp; rfl) (by kernel_rfl) (by kernel_rfl) (by kernel_rfl) (fun _ _ _ h => h) (Or.inl ⟨by rfl, ?ya3⟩) hHeld ?ra3
  case ya3 => intro w hSw; clear hSw; go_simp; with_reducible rfl
  simp only [Act.put, List.setIfInBounds_toArray, List.set_cons_zero, List.set_cons_succ]
  refine wpAnyH_take (i := 3) (v := ?va4) (by simp; rfl) (by kernel_rfl) (by kernel_rfl) (by kernel_rfl) (fun _ _ _ h => h) (Or.inl ⟨by rfl, ?ya4⟩) hHeld ?ra4
  case ya4 => intro w hSw; have z := hSw.1; clear hSw; go_simp; with_reducible rfl
  simp only [Act.put, List.setIfInBounds_toArray, List.set_cons_zero, List.set_cons_succ]
  refine wpAnyH_take (i := 4) (v := ?va5) (by simp; rfl) (by kernel_rfl) (by kernel_rfl) (by kernel_rfl) (fun _ _ _ h => h) (Or.inl ⟨by rfl, ?ya5⟩) hHeld ?ra5
  case ya5 => intro w hSw; clear hSw; go_simp; with_reducible rfl
  simp only [Act.put, List.setIfInBounds_toArray, List.set_cons_zero, List.set_cons_succ]
  refine wpAnyH_take (i := 5) (v := ?va6) (by simp; rfl) (by kernel_rfl) (by kernel_rfl) (by kernel_rfl) (fun _ _ _ h => h) (Or.inl ⟨by rfl, ?ya6⟩) hHeld ?ra6
  case ya6 => intro w hSw; clear hSw; go_simp; with_reducible rfl
  simp only [Act.put, List.setIfInBounds_toArray, List.set_cons_zero, List.set_cons_succ]
  refine wpAnyH_take (i := 6) (v := ?va7) (by simp; rfl) (by kernel_rfl) (by kernel_rfl) (by kernel_rfl) (fun _ _ _ h => h) (Or.inl ⟨by rfl, ?ya7⟩) hHeld ?ra7
  case ya7 => intro w hSw; have z := hSw.2; clear hSw; go_simp; with_reducible rfl
  simp only [Act.put, List.setIfInBounds_toArray, List.set_cons_zero, List.set_cons_succ]
  refine wpAnyH_take (i := 8) (v := ?va8) (by simp; rfl) (by kernel_rfl) (by kernel_rfl) (by kernel_rfl) (fun _ _ _ h => h) (Or.inl ⟨by rfl, ?ya8⟩) hHeld ?ra8
  case ya8 => intro w hSw; clear hSw; go_simp; with_reducible rfl
  simp only [Act.put, List.setIfInBounds_toArray, List.set_cons_zero, List.set_cons_succ]
  refine wpAnyH_ready (rs := [7]) (by kernel_rfl) (by simp) ?_
  refine AllReadyH.cons (by simp; rfl) (fun Kc hKc => ?_) AllReadyH.nil
  go_simp
  refine (sector_at (LAt.later HG2.out.log D2.out) HG.out.ok g.fin hf0 (by omega)).mono ?_
  rintro e wn ⟨rfl, rfl⟩
  refine hKc.out _ _ hHeld (fun hHeld => ?_)
  clear hKc Kc
  refine wpAnyH_ready (rs := [9]) (by kernel_rfl) (by simp) ?_
  refine AllReadyH.cons (by simp; rfl) (fun Kc hKc => ?_) AllReadyH.nil
  go_simp
  refine (write_at (HG2.out.later D2.out).dsk (secN g g.fin) (secN_in HG.out.ok _).1 (secN_in HG.out.ok _).2 q2 c2' _ (X2.out.later D2.out) hk).mono ?_
  rintro e w3 ⟨rfl, d3, k3⟩
  have Y3 : Hid (Dsk w3 (More (fun k => S k ∧ k ≠ L) wd) p g.sz d (ws ++ [⟨(secN g g.fin).toNat, R.encS r'⟩]) ∧ GAt w3 L (some ⟨p, 0, none⟩) g ∧ Kept (fun k => S k ∧ k ≠ L) wd w3 ∧ w3.cell? ⟨w.heap.size, 1, none⟩ = some (.int .u64 g.fin)) := by
    have hz := B2.out.size
    have hz2 := D2.out.size
    have hA := A2.out.lt
    refine ⟨d3, (k3.block L (by omega) (fun t => t.2 rfl)).trans (LAt.later HG2.out.log D2.out), k3, ?_⟩
    rw [World.cell?_of_block (k3.block w.heap.size (by omega) (fun t => by have := HS.out _ t.1; omega))]
    exact hHeld.2
  clear d3 k3
  refine hKc.out _ _ ⟨GAt.c0 Y3.out.2.1, Y3.out.2.2.2⟩ (fun hHeld => ?_)
  clear hKc Kc
  refine wpAnyH_take (i := 10) (v := ?va9) (by simp; rfl) (by kernel_rfl) (by kernel_rfl) (by kernel_rfl) (fun _ _ _ h => h) (Or.inl ⟨by rfl, ?ya9⟩) hHeld ?ra9
  case ya9 => intro w hSw; clear hSw; go_simp; with_reducible rfl
  simp only [Act.put, List.setIfInBounds_toArray, List.set_cons_zero, List.set_cons_succ]
  refine wpAnyH_done (by kernel_rfl) (NoPanic.normal ?_) _
  have c8 := GAt.c8 Y3.out.2.1
  have cf := GAt.free Y3.out.2.1 8
  have c1 := Y3.out.2.2.2
  have hne : ¬ L = w.heap.size := by omega
  have hne2 : ¬ w.heap.size = L := by omega
  have k1 : IntKind.u64.wrap (g.fin + 1) = g.fin + 1 := G.wrap_u (by omega) (by omega)
  clear hHeld X2 A2
  go_wp2_with fail
  go_ret2
  have hs2 := B2.out.size
  have hs3 := Y3.out.2.2.1.size
  refine ⟨rfl, ?_, GAt.setF Y3.out.2.1 _, ?_⟩
  · refine (Y3.out.1.kept (kept_set w3 L 8 (.int .u64 (g.fin + 1))) ?_).mono ?_
    · rintro k (hs | hs) rfl
      · exact hs.2 rfl
      · have := D2.out.size; omega
    · rintro k _ (hs | hs)
      · exact .inl hs
      · exact .inr (by have := D2.out.size; omega)
  · exact ((Kept.of_below (S := S) (below_then B2.out D2.out)).trans (T := fun k => S k ∧ k ≠ L) Y3.out.2.2.1 (fun _ _ t => t.1)).setCell (p := ⟨L, 8, none⟩) (fun _ => HG.out.sl) _
theorem add_good {w : World} {S : Nat → Prop} {L p : Nat} {d : List Int} {ws : List Wr} {g : Lg} (h : LD w S L p d ws g) (hk : ws.length ≤ 100000) (ht : Tab w) (r : R.Rec) (hv : r.val.length = 32) (hw : R.Rec.Wf ⟨r.kind, g.fin, r.block, r.val, r.images⟩) (hm : R.may ⟨r.kind, g.fin, r.block, r.val, r.images⟩ = true) (hf : g.fin < 4611686018427387904) :
    Calls Tryz.prog 39 #[.pointer (some ⟨L, 0, none⟩), .agg (R.rcells r).toArray] w fun e w' => e = .returned (.tuple #[.int .u64 g.fin, .int .i64 0]) ∧ Dsk w' (More (fun k => S k ∧ k ≠ L) w) p g.sz d (ws ++ [⟨(secN g g.fin).toNat, R.encS ⟨r.kind, g.fin, r.block, r.val, r.images⟩⟩]) ∧ GAt w' L (some ⟨p, 0, none⟩) (addG g) ∧ Kept S w w' := by
  refine (add_low (h.mono (T := fun k => S k ∧ k < w.heap.size) fun k hk s => ⟨s, hk⟩) (fun _ s => s.2) hk ht r hv hw hm hf).mono ?_
  rintro e w' ⟨rfl, h1, h2, h3⟩
  refine ⟨rfl, h1.mono ?_, h2, h3.wider fun _ _ s => s.1⟩
  rintro k _ (hs | hs)
  · exact .inl ⟨hs.1.1, hs.2⟩
  · exact .inr hs
end Go.Proofs.YtmcpjokbkkfgfaaGreatDoor
