/-
  Layer 9, the document's log: Open.
-/
import Derived.Test.YtmcpjokbkkfgfaaGreatDoorT27
import Derived.Test.YtmcpjokbkkfgfaaGreatDoorT25
namespace Go.Proofs.YtmcpjokbkkfgfaaGreatDoor
open Go.RowKit


theorem placesRL : placesOf Tryz.prog 85 = some plL := by kernel_rfl
theorem fillRL (dp : Option Addr) (s : Sup) (t l : Int) : Instr.fill (plL.toArray[·]?) (lcells none lg0).toArray [(0, .pointer dp), (1, .agg (ccells s).toArray), (2, .int .u64 l), (3, .int .u64 t), (4, .int .u64 t), (5, .int .u64 t)] = some (lcells dp (wb (opnG s t l) 0)).toArray := by
  rw [fill_step 0 1 0 rfl _ [.pointer dp] _ rfl rfl (by simp [lcells]), fill_step 1 5 1 rfl _ (ccells s) _ rfl rfl (by simp [lcells]), fill_step 6 1 2 rfl _ [.int .u64 l] _ rfl rfl (by simp [lcells, ccells]), fill_step 7 1 3 rfl _ [.int .u64 t] _ rfl rfl (by simp [lcells, ccells]), fill_step 8 1 4 rfl _ [.int .u64 t] _ rfl rfl (by simp [lcells, ccells]), fill_step 9 1 5 rfl _ [.int .u64 t] _ rfl rfl (by simp [lcells, ccells])]
  rfl
theorem buildRL (w : World) (dp : Option Addr) (s : Sup) (t l : Int) : (Instr.build 85 #[(0, .pointer dp), (1, .agg (ccells s).toArray), (2, .int .u64 l), (3, .int .u64 t), (4, .int .u64 t), (5, .int .u64 t)]).run Tryz.prog w = .ok (.agg (lcells dp (wb (opnG s t l) 0)).toArray) w :=
  run_build w 85 _ _ ((built_of 85 _ _ _ placesRL zeroRL).trans (fillRL dp s t l))
set_option maxHeartbeats 2000000 in
set_option maxRecDepth 100000 in
theorem ropen_no (s : Sup) (t l : Int) (ht0 : 0 ≤ t) (hl0 : 0 ≤ l) {w : World} {S : Nat → Prop} {p n : Nat} {d : List Int} {ws : List Wr} (h : Ref w S p n d ws) (hr : ¬ opnS s n t l = 0) :
    Calls Tryz.prog 8 #[.pointer (some ⟨p, 0, none⟩), .agg (ccells s).toArray, .int .u64 t, .int .u64 l] w fun e w' => e = .returned (.tuple #[.pointer none, .int .i64 (opnS s n t l)]) ∧ Below w.heap.size w w' := by
  have HB : Hid (Below w.heap.size w (w.alloc (.cells (ccells s).toArray 23))) := below_alloc w _
  have C0 : Hid (CAt (w.alloc (.cells (ccells s).toArray 23)) w.heap.size s) := LAt.new 23 w (ccells s)
  have L1 : Hid (_) := CAt.load23 C0.out
  have HD : Hid (Ref w S p n d ws) := h
  clear h
  go_enter Tryz.func8, Tryz.ntmps8
  go_wp2_with ((with_reducible refine at_ops ?_); (refine wpList_load_is (by rfl) 23 rfl rfl L1.out ?_); simp only [Act.put, List.setIfInBounds_toArray, List.set_cons_zero, List.set_cons_succ])
  refine (refConfig_any s _).mono ?_
  rintro e w1 ⟨rfl, b1⟩
  have B1 : Hid (Below w.heap.size w w1) := below_then HB.out b1
  have C1 : Hid (CAt w1 w.heap.size s) := LAt.later C0.out b1
  have D1 : Hid (Ref w1 S p n d ws) := HD.out.later B1.out
  clear b1 HB C0 L1
  by_cases hc : MayC s
  · have hcf : cfg s = 0 := if_pos hc
    have hb := hc.1
    have hlc := hc.2.1
    rw [hcf]
    have k1 : IntKind.i64.wrap (1 + s.bl) = 1 + s.bl := by rw [IntKind.wrap_i64]; omega
    have k2 : IntKind.i64.wrap (1 + s.bl + s.lc) = 1 + s.bl + s.lc := by rw [IntKind.wrap_i64]; omega
    by_cases hlen : (n : Int) = 1 + s.bl + s.lc
    · have hq : ((n : Int) != 1 + s.bl + s.lc) = false := by simp [hlen]
      by_cases hw : t > 4611686018427387904 ∨ l > 4611686018427387904
      · have HE : Hid (opnS s n t l = 31) := opnS_wrap hc hlen hw
        by_cases hw1 : 4611686018427387904 < t
        · clear hr hw hlen hc
          go_wp2_with fail
          refine wp_region_noPanic ?_
          refine wp_region_held_drew (S := fun w' => Below w1.heap.size w1 w') (by kernel_rfl) (below_drawn 1) (fun hHeld => ?_)
          have DX : Hid (Below w1.heap.size w1 w1.drew) := hHeld
          generalize w1.drew = wd at *
          have BD : Hid (Below w.heap.size w wd) := below_then B1.out DX.out
          refine wpAnyH_take (i := 0) (v := ?va1) (by simp; rfl) (by kernel_rfl) (by kernel_rfl) (by kernel_rfl) (fun _ _ _ h => h) (Or.inl ⟨by rfl, ?ya1⟩) hHeld ?ra1
          case ya1 => intro w hSw; clear hSw; go_simp; with_reducible rfl
          simp only [Act.put, List.setIfInBounds_toArray, List.set_cons_zero, List.set_cons_succ]
          refine wpAnyH_take (i := 2) (v := ?va2) (by simp; rfl) (by kernel_rfl) (by kernel_rfl) (by kernel_rfl) (fun _ _ _ h => h) (Or.inl ⟨by rfl, ?ya2⟩) hHeld ?ra2
          case ya2 => intro w hSw; clear hSw; go_simp; with_reducible rfl
          simp only [Act.put, List.setIfInBounds_toArray, List.set_cons_zero, List.set_cons_succ]
          refine wpAnyH_take (i := 3) (v := ?va3) (by simp; rfl) (by kernel_rfl) (by kernel_rfl) (by kernel_rfl) (fun _ _ _ h => h) (Or.inl ⟨by rfl, ?ya3⟩) hHeld ?ra3
          case ya3 => intro w hSw; have z := CAt.c0 (LAt.later C1.out hSw); clear hSw; go_simp; with_reducible rfl
          simp only [Act.put, List.setIfInBounds_toArray, List.set_cons_zero, List.set_cons_succ]
          refine wpAnyH_take (i := 4) (v := ?va4) (by simp; rfl) (by kernel_rfl) (by kernel_rfl) (by kernel_rfl) (fun _ _ _ h => h) (Or.inl ⟨by rfl, ?ya4⟩) hHeld ?ra4
          case ya4 => intro w hSw; clear hSw; go_simp; with_reducible rfl
          simp only [Act.put, List.setIfInBounds_toArray, List.set_cons_zero, List.set_cons_succ]
          refine wpAnyH_take (i := 5) (v := ?va5) (by simp; rfl) (by kernel_rfl) (by kernel_rfl) (by kernel_rfl) (fun _ _ _ h => h) (Or.inl ⟨by rfl, ?ya5⟩) hHeld ?ra5
          case ya5 => intro w hSw; clear hSw; go_simp; with_reducible rfl
          simp only [Act.put, List.setIfInBounds_toArray, List.set_cons_zero, List.set_cons_succ]
          refine wpAnyH_take (i := 6) (v := ?va6) (by simp; rfl) (by kernel_rfl) (by kernel_rfl) (by kernel_rfl) (fun _ _ _ h => h) (Or.inl ⟨by rfl, ?ya6⟩) hHeld ?ra6
          case ya6 => intro w hSw; have z := CAt.c1 (LAt.later C1.out hSw); clear hSw; go_simp; with_reducible rfl
          simp only [Act.put, List.setIfInBounds_toArray, List.set_cons_zero, List.set_cons_succ]
          refine wpAnyH_take (i := 7) (v := ?va7) (by simp; rfl) (by kernel_rfl) (by kernel_rfl) (by kernel_rfl) (fun _ _ _ h => h) (Or.inl ⟨by rfl, ?ya7⟩) hHeld ?ra7
          case ya7 => intro w hSw; clear hSw; go_simp; with_reducible rfl
          simp only [Act.put, List.setIfInBounds_toArray, List.set_cons_zero, List.set_cons_succ]
          refine wpAnyH_ready (rs := [1]) (by kernel_rfl) (by simp) ?_
          refine AllReadyH.cons (by simp; rfl) (fun Kc hKc => ?_) AllReadyH.nil
          go_simp
          refine (rlen_any (D1.out.later DX.out)).mono ?_
          rintro e wn ⟨rfl, rfl⟩
          refine hKc.out _ _ DX.out (fun hHeld => ?_)
          clear hKc Kc
          refine wpAnyH_take (i := 8) (v := ?va8) (by simp; rfl) (by kernel_rfl) (by kernel_rfl) (by kernel_rfl) (fun _ _ _ h => h) (Or.inl ⟨by rfl, ?ya8⟩) hHeld ?ra8
          case ya8 => intro w hSw; clear hSw; go_simp; with_reducible rfl
          simp only [Act.put, List.setIfInBounds_toArray, List.set_cons_zero, List.set_cons_succ]
          refine wpAnyH_take (i := 9) (v := ?va9) (by simp; rfl) (by kernel_rfl) (by kernel_rfl) (by kernel_rfl) (fun _ _ _ h => h) (Or.inl ⟨by rfl, ?ya9⟩) hHeld ?ra9
          case ya9 => intro w hSw; clear hSw; go_simp; with_reducible rfl
          simp only [Act.put, List.setIfInBounds_toArray, List.set_cons_zero, List.set_cons_succ]
          clear hHeld
          refine wpAnyH_done (by kernel_rfl) (NoPanic.normal ?_) _
          go_wp2_with fail
          go_ret2
          exact ⟨by rw [HE.out]; rfl, BD.out⟩
        · have hw2 : 4611686018427387904 < l := by rcases hw with h | h <;> omega
          clear hr hw hlen hc
          go_wp2_with fail
          refine wp_region_noPanic ?_
          refine wp_region_held_drew (S := fun w' => Below w1.heap.size w1 w') (by kernel_rfl) (below_drawn 1) (fun hHeld => ?_)
          have DX : Hid (Below w1.heap.size w1 w1.drew) := hHeld
          generalize w1.drew = wd at *
          have BD : Hid (Below w.heap.size w wd) := below_then B1.out DX.out
          refine wpAnyH_take (i := 0) (v := ?va10) (by simp; rfl) (by kernel_rfl) (by kernel_rfl) (by kernel_rfl) (fun _ _ _ h => h) (Or.inl ⟨by rfl, ?ya10⟩) hHeld ?ra10
          case ya10 => intro w hSw; clear hSw; go_simp; with_reducible rfl
          simp only [Act.put, List.setIfInBounds_toArray, List.set_cons_zero, List.set_cons_succ]
          refine wpAnyH_take (i := 2) (v := ?va11) (by simp; rfl) (by kernel_rfl) (by kernel_rfl) (by kernel_rfl) (fun _ _ _ h => h) (Or.inl ⟨by rfl, ?ya11⟩) hHeld ?ra11
          case ya11 => intro w hSw; clear hSw; go_simp; with_reducible rfl
          simp only [Act.put, List.setIfInBounds_toArray, List.set_cons_zero, List.set_cons_succ]
          refine wpAnyH_take (i := 3) (v := ?va12) (by simp; rfl) (by kernel_rfl) (by kernel_rfl) (by kernel_rfl) (fun _ _ _ h => h) (Or.inl ⟨by rfl, ?ya12⟩) hHeld ?ra12
          case ya12 => intro w hSw; have z := CAt.c0 (LAt.later C1.out hSw); clear hSw; go_simp; with_reducible rfl
          simp only [Act.put, List.setIfInBounds_toArray, List.set_cons_zero, List.set_cons_succ]
          refine wpAnyH_take (i := 4) (v := ?va13) (by simp; rfl) (by kernel_rfl) (by kernel_rfl) (by kernel_rfl) (fun _ _ _ h => h) (Or.inl ⟨by rfl, ?ya13⟩) hHeld ?ra13
          case ya13 => intro w hSw; clear hSw; go_simp; with_reducible rfl
          simp only [Act.put, List.setIfInBounds_toArray, List.set_cons_zero, List.set_cons_succ]
          refine wpAnyH_take (i := 5) (v := ?va14) (by simp; rfl) (by kernel_rfl) (by kernel_rfl) (by kernel_rfl) (fun _ _ _ h => h) (Or.inl ⟨by rfl, ?ya14⟩) hHeld ?ra14
          case ya14 => intro w hSw; clear hSw; go_simp; with_reducible rfl
          simp only [Act.put, List.setIfInBounds_toArray, List.set_cons_zero, List.set_cons_succ]
          refine wpAnyH_take (i := 6) (v := ?va15) (by simp; rfl) (by kernel_rfl) (by kernel_rfl) (by kernel_rfl) (fun _ _ _ h => h) (Or.inl ⟨by rfl, ?ya15⟩) hHeld ?ra15
          case ya15 => intro w hSw; have z := CAt.c1 (LAt.later C1.out hSw); clear hSw; go_simp; with_reducible rfl
          simp only [Act.put, List.setIfInBounds_toArray, List.set_cons_zero, List.set_cons_succ]
          refine wpAnyH_take (i := 7) (v := ?va16) (by simp; rfl) (by kernel_rfl) (by kernel_rfl) (by kernel_rfl) (fun _ _ _ h => h) (Or.inl ⟨by rfl, ?ya16⟩) hHeld ?ra16
          case ya16 => intro w hSw; clear hSw; go_simp; with_reducible rfl
          simp only [Act.put, List.setIfInBounds_toArray, List.set_cons_zero, List.set_cons_succ]
          refine wpAnyH_ready (rs := [1]) (by kernel_rfl) (by simp) ?_
          refine AllReadyH.cons (by simp; rfl) (fun Kc hKc => ?_) AllReadyH.nil
          go_simp
          refine (rlen_any (D1.out.later DX.out)).mono ?_
          rintro e wn ⟨rfl, rfl⟩
          refine hKc.out _ _ DX.out (fun hHeld => ?_)
          clear hKc Kc
          refine wpAnyH_take (i := 8) (v := ?va17) (by simp; rfl) (by kernel_rfl) (by kernel_rfl) (by kernel_rfl) (fun _ _ _ h => h) (Or.inl ⟨by rfl, ?ya17⟩) hHeld ?ra17
          case ya17 => intro w hSw; clear hSw; go_simp; with_reducible rfl
          simp only [Act.put, List.setIfInBounds_toArray, List.set_cons_zero, List.set_cons_succ]
          refine wpAnyH_take (i := 9) (v := ?va18) (by simp; rfl) (by kernel_rfl) (by kernel_rfl) (by kernel_rfl) (fun _ _ _ h => h) (Or.inl ⟨by rfl, ?ya18⟩) hHeld ?ra18
          case ya18 => intro w hSw; clear hSw; go_simp; with_reducible rfl
          simp only [Act.put, List.setIfInBounds_toArray, List.set_cons_zero, List.set_cons_succ]
          clear hHeld
          refine wpAnyH_done (by kernel_rfl) (NoPanic.normal ?_) _
          go_wp2_with fail
          go_ret2
          exact ⟨by rw [HE.out]; rfl, BD.out⟩
      · have hl : l = 0 := Decidable.byContradiction fun hl => hr (opnS_ok hc hlen hw hl)
        have HE : Hid (opnS s n t l = 2) := opnS_life hc hlen hw hl
        have hw1 : ¬ 4611686018427387904 < t := fun h => hw (.inl h)
        have hw2 : ¬ 4611686018427387904 < l := fun h => hw (.inr h)
        clear hr hw hlen hc
        subst hl
        go_wp2_with fail
        refine wp_region_noPanic ?_
        refine wp_region_held_drew (S := fun w' => Below w1.heap.size w1 w') (by kernel_rfl) (below_drawn 1) (fun hHeld => ?_)
        have DX : Hid (Below w1.heap.size w1 w1.drew) := hHeld
        generalize w1.drew = wd at *
        have BD : Hid (Below w.heap.size w wd) := below_then B1.out DX.out
        refine wpAnyH_take (i := 0) (v := ?va19) (by simp; rfl) (by kernel_rfl) (by kernel_rfl) (by kernel_rfl) (fun _ _ _ h => h) (Or.inl ⟨by rfl, ?ya19⟩) hHeld ?ra19
        case ya19 => intro w hSw; clear hSw; go_simp; with_reducible rfl
        simp only [Act.put, List.setIfInBounds_toArray, List.set_cons_zero, List.set_cons_succ]
        refine wpAnyH_take (i := 2) (v := ?va20) (by simp; rfl) (by kernel_rfl) (by kernel_rfl) (by kernel_rfl) (fun _ _ _ h => h) (Or.inl ⟨by rfl, ?ya20⟩) hHeld ?ra20
        case ya20 => intro w hSw; clear hSw; go_simp; with_reducible rfl
        simp only [Act.put, List.setIfInBounds_toArray, List.set_cons_zero, List.set_cons_succ]
        refine wpAnyH_take (i := 3) (v := ?va21) (by simp; rfl) (by kernel_rfl) (by kernel_rfl) (by kernel_rfl) (fun _ _ _ h => h) (Or.inl ⟨by rfl, ?ya21⟩) hHeld ?ra21
        case ya21 => intro w hSw; have z := CAt.c0 (LAt.later C1.out hSw); clear hSw; go_simp; with_reducible rfl
        simp only [Act.put, List.setIfInBounds_toArray, List.set_cons_zero, List.set_cons_succ]
        refine wpAnyH_take (i := 4) (v := ?va22) (by simp; rfl) (by kernel_rfl) (by kernel_rfl) (by kernel_rfl) (fun _ _ _ h => h) (Or.inl ⟨by rfl, ?ya22⟩) hHeld ?ra22
        case ya22 => intro w hSw; clear hSw; go_simp; with_reducible rfl
        simp only [Act.put, List.setIfInBounds_toArray, List.set_cons_zero, List.set_cons_succ]
        refine wpAnyH_take (i := 5) (v := ?va23) (by simp; rfl) (by kernel_rfl) (by kernel_rfl) (by kernel_rfl) (fun _ _ _ h => h) (Or.inl ⟨by rfl, ?ya23⟩) hHeld ?ra23
        case ya23 => intro w hSw; clear hSw; go_simp; with_reducible rfl
        simp only [Act.put, List.setIfInBounds_toArray, List.set_cons_zero, List.set_cons_succ]
        refine wpAnyH_take (i := 6) (v := ?va24) (by simp; rfl) (by kernel_rfl) (by kernel_rfl) (by kernel_rfl) (fun _ _ _ h => h) (Or.inl ⟨by rfl, ?ya24⟩) hHeld ?ra24
        case ya24 => intro w hSw; have z := CAt.c1 (LAt.later C1.out hSw); clear hSw; go_simp; with_reducible rfl
        simp only [Act.put, List.setIfInBounds_toArray, List.set_cons_zero, List.set_cons_succ]
        refine wpAnyH_take (i := 7) (v := ?va25) (by simp; rfl) (by kernel_rfl) (by kernel_rfl) (by kernel_rfl) (fun _ _ _ h => h) (Or.inl ⟨by rfl, ?ya25⟩) hHeld ?ra25
        case ya25 => intro w hSw; clear hSw; go_simp; with_reducible rfl
        simp only [Act.put, List.setIfInBounds_toArray, List.set_cons_zero, List.set_cons_succ]
        refine wpAnyH_ready (rs := [1]) (by kernel_rfl) (by simp) ?_
        refine AllReadyH.cons (by simp; rfl) (fun Kc hKc => ?_) AllReadyH.nil
        go_simp
        refine (rlen_any (D1.out.later DX.out)).mono ?_
        rintro e wn ⟨rfl, rfl⟩
        refine hKc.out _ _ DX.out (fun hHeld => ?_)
        clear hKc Kc
        refine wpAnyH_take (i := 8) (v := ?va26) (by simp; rfl) (by kernel_rfl) (by kernel_rfl) (by kernel_rfl) (fun _ _ _ h => h) (Or.inl ⟨by rfl, ?ya26⟩) hHeld ?ra26
        case ya26 => intro w hSw; clear hSw; go_simp; with_reducible rfl
        simp only [Act.put, List.setIfInBounds_toArray, List.set_cons_zero, List.set_cons_succ]
        refine wpAnyH_take (i := 9) (v := ?va27) (by simp; rfl) (by kernel_rfl) (by kernel_rfl) (by kernel_rfl) (fun _ _ _ h => h) (Or.inl ⟨by rfl, ?ya27⟩) hHeld ?ra27
        case ya27 => intro w hSw; clear hSw; go_simp; with_reducible rfl
        simp only [Act.put, List.setIfInBounds_toArray, List.set_cons_zero, List.set_cons_succ]
        clear hHeld
        refine wpAnyH_done (by kernel_rfl) (NoPanic.normal ?_) _
        go_wp2_with fail
        go_ret2
        exact ⟨by rw [HE.out]; rfl, BD.out⟩
    · have HE : Hid (opnS s n t l = 40) := opnS_len t l hc hlen
      have hq : ((n : Int) != 1 + s.bl + s.lc) = true := by simp [hlen]
      clear hr hlen hc
      go_wp2_with fail
      refine wp_region_noPanic ?_
      refine wp_region_held_drew (S := fun w' => Below w1.heap.size w1 w') (by kernel_rfl) (below_drawn 1) (fun hHeld => ?_)
      have DX : Hid (Below w1.heap.size w1 w1.drew) := hHeld
      generalize w1.drew = wd at *
      have BD : Hid (Below w.heap.size w wd) := below_then B1.out DX.out
      refine wpAnyH_take (i := 0) (v := ?va28) (by simp; rfl) (by kernel_rfl) (by kernel_rfl) (by kernel_rfl) (fun _ _ _ h => h) (Or.inl ⟨by rfl, ?ya28⟩) hHeld ?ra28
      case ya28 => intro w hSw; clear hSw; go_simp; with_reducible rfl
      simp only [Act.put, List.setIfInBounds_toArray, List.set_cons_zero, List.set_cons_succ]
      refine wpAnyH_take (i := 2) (v := ?va29) (by simp; rfl) (by kernel_rfl) (by kernel_rfl) (by kernel_rfl) (fun _ _ _ h => h) (Or.inl ⟨by rfl, ?ya29⟩) hHeld ?ra29
      case ya29 => intro w hSw; clear hSw; go_simp; with_reducible rfl
      simp only [Act.put, List.setIfInBounds_toArray, List.set_cons_zero, List.set_cons_succ]
      refine wpAnyH_take (i := 3) (v := ?va30) (by simp; rfl) (by kernel_rfl) (by kernel_rfl) (by kernel_rfl) (fun _ _ _ h => h) (Or.inl ⟨by rfl, ?ya30⟩) hHeld ?ra30
      case ya30 => intro w hSw; have z := CAt.c0 (LAt.later C1.out hSw); clear hSw; go_simp; with_reducible rfl
      simp only [Act.put, List.setIfInBounds_toArray, List.set_cons_zero, List.set_cons_succ]
      refine wpAnyH_take (i := 4) (v := ?va31) (by simp; rfl) (by kernel_rfl) (by kernel_rfl) (by kernel_rfl) (fun _ _ _ h => h) (Or.inl ⟨by rfl, ?ya31⟩) hHeld ?ra31
      case ya31 => intro w hSw; clear hSw; go_simp; with_reducible rfl
      simp only [Act.put, List.setIfInBounds_toArray, List.set_cons_zero, List.set_cons_succ]
      refine wpAnyH_take (i := 5) (v := ?va32) (by simp; rfl) (by kernel_rfl) (by kernel_rfl) (by kernel_rfl) (fun _ _ _ h => h) (Or.inl ⟨by rfl, ?ya32⟩) hHeld ?ra32
      case ya32 => intro w hSw; clear hSw; go_simp; with_reducible rfl
      simp only [Act.put, List.setIfInBounds_toArray, List.set_cons_zero, List.set_cons_succ]
      refine wpAnyH_take (i := 6) (v := ?va33) (by simp; rfl) (by kernel_rfl) (by kernel_rfl) (by kernel_rfl) (fun _ _ _ h => h) (Or.inl ⟨by rfl, ?ya33⟩) hHeld ?ra33
      case ya33 => intro w hSw; have z := CAt.c1 (LAt.later C1.out hSw); clear hSw; go_simp; with_reducible rfl
      simp only [Act.put, List.setIfInBounds_toArray, List.set_cons_zero, List.set_cons_succ]
      refine wpAnyH_take (i := 7) (v := ?va34) (by simp; rfl) (by kernel_rfl) (by kernel_rfl) (by kernel_rfl) (fun _ _ _ h => h) (Or.inl ⟨by rfl, ?ya34⟩) hHeld ?ra34
      case ya34 => intro w hSw; clear hSw; go_simp; with_reducible rfl
      simp only [Act.put, List.setIfInBounds_toArray, List.set_cons_zero, List.set_cons_succ]
      refine wpAnyH_ready (rs := [1]) (by kernel_rfl) (by simp) ?_
      refine AllReadyH.cons (by simp; rfl) (fun Kc hKc => ?_) AllReadyH.nil
      go_simp
      refine (rlen_any (D1.out.later DX.out)).mono ?_
      rintro e wn ⟨rfl, rfl⟩
      refine hKc.out _ _ DX.out (fun hHeld => ?_)
      clear hKc Kc
      refine wpAnyH_take (i := 8) (v := ?va35) (by simp; rfl) (by kernel_rfl) (by kernel_rfl) (by kernel_rfl) (fun _ _ _ h => h) (Or.inl ⟨by rfl, ?ya35⟩) hHeld ?ra35
      case ya35 => intro w hSw; clear hSw; go_simp; with_reducible rfl
      simp only [Act.put, List.setIfInBounds_toArray, List.set_cons_zero, List.set_cons_succ]
      refine wpAnyH_take (i := 9) (v := ?va36) (by simp; rfl) (by kernel_rfl) (by kernel_rfl) (by kernel_rfl) (fun _ _ _ h => h) (Or.inl ⟨by rfl, ?ya36⟩) hHeld ?ra36
      case ya36 => intro w hSw; clear hSw; go_simp; with_reducible rfl
      simp only [Act.put, List.setIfInBounds_toArray, List.set_cons_zero, List.set_cons_succ]
      clear hHeld
      refine wpAnyH_done (by kernel_rfl) (NoPanic.normal ?_) _
      go_wp2_with fail
      go_ret2
      exact ⟨by rw [HE.out]; rfl, BD.out⟩
  · have hcf : cfg s = 3 := if_neg hc
    have HE : Hid (opnS s n t l = 3) := opnS_no _ t l hc
    rw [hcf]
    clear hr hc
    go_wp2_with fail
    go_ret2
    exact ⟨by rw [HE.out]; rfl, B1.out⟩
set_option maxHeartbeats 2000000 in
set_option maxRecDepth 100000 in
theorem ropen_ok (s : Sup) (t l : Int) (ht0 : 0 ≤ t) (hl0 : 0 ≤ l) {w : World} {S : Nat → Prop} {p n : Nat} {d : List Int} {ws : List Wr} (h : Ref w S p n d ws) (hr : opnS s n t l = 0) :
    Calls Tryz.prog 8 #[.pointer (some ⟨p, 0, none⟩), .agg (ccells s).toArray, .int .u64 t, .int .u64 l] w fun e w' => ∃ L, e = .returned (.tuple #[.pointer (some ⟨L, 0, none⟩), .int .i64 0]) ∧ w.heap.size ≤ L ∧ RL w' (More S w) L p d ws (opnG s t l) 0 ∧ Below w.heap.size w w' := by
  have HB : Hid (Below w.heap.size w (w.alloc (.cells (ccells s).toArray 23))) := below_alloc w _
  have C0 : Hid (CAt (w.alloc (.cells (ccells s).toArray 23)) w.heap.size s) := LAt.new 23 w (ccells s)
  have L1 : Hid (_) := CAt.load23 C0.out
  have HD : Hid (Ref w S p n d ws) := h
  clear h
  go_enter Tryz.func8, Tryz.ntmps8
  go_wp2_with ((with_reducible refine at_ops ?_); (refine wpList_load_is (by rfl) 23 rfl rfl L1.out ?_); simp only [Act.put, List.setIfInBounds_toArray, List.set_cons_zero, List.set_cons_succ])
  refine (refConfig_any s _).mono ?_
  rintro e w1 ⟨rfl, b1⟩
  have B1 : Hid (Below w.heap.size w w1) := below_then HB.out b1
  have C1 : Hid (CAt w1 w.heap.size s) := LAt.later C0.out b1
  have D1 : Hid (Ref w1 S p n d ws) := HD.out.later B1.out
  clear b1 HB C0 L1
  obtain ⟨hc, hlen, hw1, hw2, hl⟩ := opnS_zero hr
  have hcf : cfg s = 0 := if_pos hc
  have hb := hc.1
  have hlc := hc.2.1
  rw [hcf]
  have k1 : IntKind.i64.wrap (1 + s.bl) = 1 + s.bl := by rw [IntKind.wrap_i64]; omega
  have k2 : IntKind.i64.wrap (1 + s.bl + s.lc) = 1 + s.bl + s.lc := by rw [IntKind.wrap_i64]; omega
  have hq : ((n : Int) != 1 + s.bl + s.lc) = false := by simp [hlen]
  have hw1' : ¬ 4611686018427387904 < t := by omega
  have hw2' : ¬ 4611686018427387904 < l := by omega
  have hl' : (l == 0) = false := by simp [hl]
  have HOK : Hid ((opnG s t l).Ok ∧ (opnG s t l).sz = n) := ⟨opnG_ok hr ht0 hl0, by have := (opnG_ok hr ht0 hl0).sz_is; have e1 : (opnG s t l).c = s := rfl; rw [e1] at this; omega⟩
  clear hr hlen hc hw1 hw2
  go_wp2_with fail
  refine wp_region_noPanic ?_
  refine wp_region_held_drew (S := fun w' => Below w1.heap.size w1 w') (by kernel_rfl) (below_drawn 1) (fun hHeld => ?_)
  have DX : Hid (Below w1.heap.size w1 w1.drew) := hHeld
  generalize w1.drew = wd at *
  have BD : Hid (Below w.heap.size w wd) := below_then B1.out DX.out
  refine wpAnyH_take (i := 0) (v := ?va37) (by simp; rfl) (by kernel_rfl) (by kernel_rfl) (by kernel_rfl) (fun _ _ _ h => h) (Or.inl ⟨by rfl, ?ya37⟩) hHeld ?ra37
  case ya37 => intro w hSw; clear hSw; go_simp; with_reducible rfl
  simp only [Act.put, List.setIfInBounds_toArray, List.set_cons_zero, List.set_cons_succ]
  refine wpAnyH_take (i := 2) (v := ?va38) (by simp; rfl) (by kernel_rfl) (by kernel_rfl) (by kernel_rfl) (fun _ _ _ h => h) (Or.inl ⟨by rfl, ?ya38⟩) hHeld ?ra38
  case ya38 => intro w hSw; clear hSw; go_simp; with_reducible rfl
  simp only [Act.put, List.setIfInBounds_toArray, List.set_cons_zero, List.set_cons_succ]
  refine wpAnyH_take (i := 3) (v := ?va39) (by simp; rfl) (by kernel_rfl) (by kernel_rfl) (by kernel_rfl) (fun _ _ _ h => h) (Or.inl ⟨by rfl, ?ya39⟩) hHeld ?ra39
  case ya39 => intro w hSw; have z := CAt.c0 (LAt.later C1.out hSw); clear hSw; go_simp; with_reducible rfl
  simp only [Act.put, List.setIfInBounds_toArray, List.set_cons_zero, List.set_cons_succ]
  refine wpAnyH_take (i := 4) (v := ?va40) (by simp; rfl) (by kernel_rfl) (by kernel_rfl) (by kernel_rfl) (fun _ _ _ h => h) (Or.inl ⟨by rfl, ?ya40⟩) hHeld ?ra40
  case ya40 => intro w hSw; clear hSw; go_simp; with_reducible rfl
  simp only [Act.put, List.setIfInBounds_toArray, List.set_cons_zero, List.set_cons_succ]
  refine wpAnyH_take (i := 5) (v := ?va41) (by simp; rfl) (by kernel_rfl) (by kernel_rfl) (by kernel_rfl) (fun _ _ _ h => h) (Or.inl ⟨by rfl, ?ya41⟩) hHeld ?ra41
  case ya41 => intro w hSw; clear hSw; go_simp; with_reducible rfl
  simp only [Act.put, List.setIfInBounds_toArray, List.set_cons_zero, List.set_cons_succ]
  refine wpAnyH_take (i := 6) (v := ?va42) (by simp; rfl) (by kernel_rfl) (by kernel_rfl) (by kernel_rfl) (fun _ _ _ h => h) (Or.inl ⟨by rfl, ?ya42⟩) hHeld ?ra42
  case ya42 => intro w hSw; have z := CAt.c1 (LAt.later C1.out hSw); clear hSw; go_simp; with_reducible rfl
  simp only [Act.put, List.setIfInBounds_toArray, List.set_cons_zero, List.set_cons_succ]
  refine wpAnyH_take (i := 7) (v := ?va43) (by simp; rfl) (by kernel_rfl) (by kernel_rfl) (by kernel_rfl) (fun _ _ _ h => h) (Or.inl ⟨by rfl, ?ya43⟩) hHeld ?ra43
  case ya43 => intro w hSw; clear hSw; go_simp; with_reducible rfl
  simp only [Act.put, List.setIfInBounds_toArray, List.set_cons_zero, List.set_cons_succ]
  refine wpAnyH_ready (rs := [1]) (by kernel_rfl) (by simp) ?_
  refine AllReadyH.cons (by simp; rfl) (fun Kc hKc => ?_) AllReadyH.nil
  go_simp
  refine (rlen_any (D1.out.later DX.out)).mono ?_
  rintro e wn ⟨rfl, rfl⟩
  refine hKc.out _ _ DX.out (fun hHeld => ?_)
  clear hKc Kc
  refine wpAnyH_take (i := 8) (v := ?va44) (by simp; rfl) (by kernel_rfl) (by kernel_rfl) (by kernel_rfl) (fun _ _ _ h => h) (Or.inl ⟨by rfl, ?ya44⟩) hHeld ?ra44
  case ya44 => intro w hSw; clear hSw; go_simp; with_reducible rfl
  simp only [Act.put, List.setIfInBounds_toArray, List.set_cons_zero, List.set_cons_succ]
  refine wpAnyH_take (i := 9) (v := ?va45) (by simp; rfl) (by kernel_rfl) (by kernel_rfl) (by kernel_rfl) (fun _ _ _ h => h) (Or.inl ⟨by rfl, ?ya45⟩) hHeld ?ra45
  case ya45 => intro w hSw; clear hSw; go_simp; with_reducible rfl
  simp only [Act.put, List.setIfInBounds_toArray, List.set_cons_zero, List.set_cons_succ]
  clear hHeld
  refine wpAnyH_done (by kernel_rfl) (NoPanic.normal ?_) _
  have LC : Hid (_) := CAt.load23 (LAt.later C1.out DX.out)
  have U1 : Hid (_) := buildRL wd (some ⟨p, 0, none⟩) s t l
  have DD : Hid (Ref wd S p n d ws) := D1.out.later DX.out
  go_wp2_with ((with_reducible refine at_ops ?_); (first | (refine wpList_load_is (by rfl) 23 rfl rfl LC.out ?_) | (refine wpList_build_is (vs := [(0, .pointer (some ⟨p, 0, none⟩)), (1, .agg (ccells s).toArray), (2, .int .u64 l), (3, .int .u64 t), (4, .int .u64 t), (5, .int .u64 t)]) (by rfl) 85 rfl (by rfl) U1.out ?_)); simp only [Act.put, List.setIfInBounds_toArray, List.set_cons_zero, List.set_cons_succ])
  go_ret2
  refine ⟨wd.heap.size, rfl, BD.out.size, ?_, BD.out.alloc BD.out.size _⟩
  have hn := LAt.new 85 wd (lcells (some ⟨p, 0, none⟩) (wb (opnG s t l) 0))
  refine ⟨hn, ?_, .inr BD.out.size, HOK.out.1, fun h => absurd h (Int.lt_irrefl 0)⟩
  rw [HOK.out.2]
  have hS := HD.out.mono (T := fun k => S k ∧ k < w.heap.size) fun k hk s => ⟨s, hk⟩
  refine (hS.later (BD.out.alloc BD.out.size _)).mono fun k _ s => ⟨.inl s.1, ?_⟩
  have := BD.out.size
  omega
end Go.Proofs.YtmcpjokbkkfgfaaGreatDoor

/-
  Layer 9: two logs on both sides: what holds of them between two steps.
-/
namespace Go.Proofs.YtmcpjokbkkfgfaaGreatDoor
open Go.RowKit


theorem cell_same {w w' : World} {g o : Nat} (e : w'.heap[g]? = w.heap[g]?) : w'.cell? ⟨g, o, none⟩ = w.cell? ⟨g, o, none⟩ := World.cell?_of_block (w := w) (a := ⟨g, o, none⟩) e
theorem Dsk.same {w w' : World} {S T : Nat → Prop} {p n : Nat} {d : List Int} {ws : List Wr} (h : Dsk w S p n d ws) (hs : ∀ k, k < w.heap.size → S k → T k) (e : ∀ k, k < w.heap.size → S k → w'.heap[k]? = w.heap[k]?) : Dsk w' T p n d ws := by
  obtain ⟨q, cap, v, h⟩ := h; exact ⟨q, cap, v, h.same hs e⟩
theorem Ref.same {w w' : World} {S T : Nat → Prop} {p n : Nat} {d : List Int} {ws : List Wr} (h : Ref w S p n d ws) (hs : ∀ k, k < w.heap.size → S k → T k) (e : ∀ k, k < w.heap.size → S k → w'.heap[k]? = w.heap[k]?) : Ref w' T p n d ws := by
  obtain ⟨g, L, cap, v, vs, h⟩ := h; exact ⟨g, L, cap, v, vs, h.same hs e⟩
/-- what a log with its disk holds: durable, waiting, the log's numbers -/
structure Sd where
  d : List Int
  ws : List Wr
  g : Lg
abbrev LS (w : World) (S : Nat → Prop) (L p : Nat) (s : Sd) : Prop := LD w S L p s.d s.ws s.g
abbrev RS (w : World) (S : Nat → Prop) (L p : Nat) (s : Sd) (b : Int) : Prop := RL w S L p s.d s.ws s.g b
theorem LS.same {w w' : World} {S T : Nat → Prop} {L p : Nat} {s : Sd} (h : LS w S L p s) (hs : ∀ k, k < w.heap.size → S k → T k) (e : ∀ k, k < w.heap.size → S k → w'.heap[k]? = w.heap[k]?) : LS w' T L p s :=
  ⟨(e L (LAt.lt h.log) h.sl).trans h.log, h.dsk.same (fun k hk hh => ⟨hs k hk hh.1, hh.2⟩) (fun k hk hh => e k hk hh.1), hs L (LAt.lt h.log) h.sl, h.ok⟩
theorem RS.same {w w' : World} {S T : Nat → Prop} {L p : Nat} {s : Sd} {b : Int} (h : RS w S L p s b) (hs : ∀ k, k < w.heap.size → S k → T k) (e : ∀ k, k < w.heap.size → S k → w'.heap[k]? = w.heap[k]?) : RS w' T L p s b :=
  ⟨(e L (LAt.lt h.log) h.sl).trans h.log, h.dsk.same (fun k hk hh => ⟨hs k hk hh.1, hh.2⟩) (fun k hk hh => e k hk hh.1), hs L (LAt.lt h.log) h.sl, h.ok, h.bk⟩
/-- **the two logs on both sides**: their block P; R: what each block is for (1 + i: the program's log i with its disk; 3 + i: the document's; 5: the block P; 0: all else); M of them are there -/
structure Wd (w : World) (R : Nat → Nat) (B P M : Nat) (L x K y : Nat → Nat) (e f : Nat → Sd) (bo : Nat → Int) : Prop where
  blk : Blk w P 46 6
  rp : R P = 5
  cl : ∀ i, i < M → w.cell? ⟨P, i, none⟩ = some (.pointer (some ⟨L i, 0, none⟩))
  cd : ∀ i, i < M → w.cell? ⟨P, 2 + i, none⟩ = some (.pointer (some ⟨x i, 0, none⟩))
  cr : ∀ i, i < M → w.cell? ⟨P, 4 + i, none⟩ = some (.pointer (some ⟨K i, 0, none⟩))
  ls : ∀ i, i < M → LS w (fun k => R k = 1 + i) (L i) (x i) (e i)
  rs : ∀ i, i < M → RS w (fun k => R k = 3 + i) (K i) (y i) (f i) (bo i)
  hi : ∀ k, w.heap.size ≤ k → R k = 0
  lo : ∀ k, k < B → R k = 0
  m2 : M ≤ 2
/-- the roles, with those of the new blocks X -/
def up (R : Nat → Nat) (a b X : Nat) : Nat → Nat := fun k => if a ≤ k then (if k < b then X else 0) else R k
theorem up_lo {R : Nat → Nat} {a b X k : Nat} (h : k < a) : up R a b X k = R k := by unfold up; rw [if_neg (by omega)]
theorem up_mid {R : Nat → Nat} {a b X k : Nat} (h : a ≤ k) (h2 : k < b) : up R a b X k = X := by unfold up; rw [if_pos h, if_pos h2]
theorem up_hi {R : Nat → Nat} {a b X k : Nat} (h : a ≤ k) (h2 : b ≤ k) : up R a b X k = 0 := by unfold up; rw [if_pos h, if_neg (by omega)]
def at2 {α : Type} (e : Nat → α) (i : Nat) (E : α) : Nat → α := fun j => if j = i then E else e j
theorem at2_same {α : Type} (e : Nat → α) (i : Nat) (E : α) : at2 e i E i = E := by simp [at2]
theorem at2_other {α : Type} (e : Nat → α) (i j : Nat) (E : α) (h : j ≠ i) : at2 e i E j = e j := by simp [at2, h]
section
variable {w w' : World} {R : Nat → Nat} {B P M : Nat} {L x K y : Nat → Nat} {e f : Nat → Sd} {bo : Nat → Int}
/-- what a call that turns nothing leaves -/
theorem Wd.later (h : Wd w R B P M L x K y e f bo) (hb : Below w.heap.size w w') : Wd w' R B P M L x K y e f bo := by
  have hP := hb.block P h.blk.lt
  exact ⟨h.blk.same hP, h.rp, fun i hi => (cell_same hP).trans (h.cl i hi), fun i hi => (cell_same hP).trans (h.cd i hi), fun i hi => (cell_same hP).trans (h.cr i hi), fun i hi => (h.ls i hi).later hb, fun i hi => (h.rs i hi).later hb, fun k hk => h.hi k (Nat.le_trans hb.size hk), h.lo, h.m2⟩
/-- the program's log i is turned -/
theorem Wd.setL (h : Wd w R B P M L x K y e f bo) {i : Nat} (hi : i < M) {E : Sd} (hk : Kept (fun k => R k = 1 + i) w w') (hd : LS w' (More (fun k => R k = 1 + i) w) (L i) (x i) E) (hB : B ≤ w.heap.size) :
    Wd w' (up R w.heap.size w'.heap.size (1 + i)) B P M L x K y (at2 e i E) f bo := by
  have hm := h.m2
  have hsz := hk.size
  have hs : ∀ k, k < w.heap.size → R k ≠ 1 + i → w'.heap[k]? = w.heap[k]? := fun k h1 h2 => hk.block k h1 h2
  have hP := hs P h.blk.lt (by rw [h.rp]; omega)
  refine ⟨h.blk.same hP, (up_lo h.blk.lt).trans h.rp, fun j hj => (cell_same hP).trans (h.cl j hj), fun j hj => (cell_same hP).trans (h.cd j hj), fun j hj => (cell_same hP).trans (h.cr j hj), fun j hj => ?_, fun j hj => ?_, fun k h1 => up_hi (by omega) h1, fun k h1 => (up_lo (by omega)).trans (h.lo k h1), hm⟩
  · by_cases c : j = i
    · subst c
      rw [at2_same]
      refine hd.mono (fun k h1 h2 => ?_)
      by_cases h3 : w.heap.size ≤ k
      · exact up_mid h3 h1
      · exact (up_lo (by omega)).trans (h2.elim id (fun h2 => by omega))
    · rw [at2_other _ _ _ _ c]
      exact (h.ls j hj).same (fun k h1 h2 => (up_lo h1).trans h2) (fun k h1 h2 => hs k h1 (by rw [h2]; omega))
  · exact (h.rs j hj).same (fun k h1 h2 => (up_lo h1).trans h2) (fun k h1 h2 => hs k h1 (by rw [h2]; omega))
/-- the document's log i is turned -/
theorem Wd.setR (h : Wd w R B P M L x K y e f bo) {i : Nat} (hi : i < M) {E : Sd} {b : Int} (hk : Kept (fun k => R k = 3 + i) w w') (hd : RS w' (More (fun k => R k = 3 + i) w) (K i) (y i) E b) (hB : B ≤ w.heap.size) :
    Wd w' (up R w.heap.size w'.heap.size (3 + i)) B P M L x K y e (at2 f i E) (at2 bo i b) := by
  have hm := h.m2
  have hsz := hk.size
  have hs : ∀ k, k < w.heap.size → R k ≠ 3 + i → w'.heap[k]? = w.heap[k]? := fun k h1 h2 => hk.block k h1 h2
  have hP := hs P h.blk.lt (by rw [h.rp]; omega)
  refine ⟨h.blk.same hP, (up_lo h.blk.lt).trans h.rp, fun j hj => (cell_same hP).trans (h.cl j hj), fun j hj => (cell_same hP).trans (h.cd j hj), fun j hj => (cell_same hP).trans (h.cr j hj), fun j hj => ?_, fun j hj => ?_, fun k h1 => up_hi (by omega) h1, fun k h1 => (up_lo (by omega)).trans (h.lo k h1), hm⟩
  · exact (h.ls j hj).same (fun k h1 h2 => (up_lo h1).trans h2) (fun k h1 h2 => hs k h1 (by rw [h2]; omega))
  · by_cases c : j = i
    · subst c
      rw [at2_same, at2_same]
      refine hd.mono (fun k h1 h2 => ?_)
      by_cases h3 : w.heap.size ≤ k
      · exact up_mid h3 h1
      · exact (up_lo (by omega)).trans (h2.elim id (fun h2 => by omega))
    · rw [at2_other _ _ _ _ c, at2_other _ _ _ _ c]
      exact (h.rs j hj).same (fun k h1 h2 => (up_lo h1).trans h2) (fun k h1 h2 => hs k h1 (by rw [h2]; omega))
end
/-- between two steps: both sides say the same -/
def St (w : World) (B P M k : Nat) : Prop := ∃ R L x K y e bo, Wd w R B P M L x K y e e bo ∧ (∀ i, i < M → (e i).ws.length ≤ k) ∧ B ≤ w.heap.size
end Go.Proofs.YtmcpjokbkkfgfaaGreatDoor

/-
  Layer 9: the other log becomes this one over a copy of its disk.
-/
namespace Go.Proofs.YtmcpjokbkkfgfaaGreatDoor
open Go.RowKit


/-- the roles, with two new logs -/
def up2 (R : Nat → Nat) (a b : Nat) (S1 S2 : Nat → Prop) [DecidablePred S1] [DecidablePred S2] (X Y : Nat) : Nat → Nat := fun k => if k < a then R k else if b ≤ k then 0 else if S1 k then X else if S2 k then Y else 0
section
variable {w w2 w3 : World} {R : Nat → Nat} {B P M : Nat} {L x K y : Nat → Nat} {e f : Nat → Sd} {bo : Nat → Int}
open Classical in
/-- both logs j are put in place of others (or where none was) -/
theorem Wd.swap (h : Wd w R B P M L x K y e f bo) {j : Nat} (hj : j < 2) (hM : ∀ i, i < 2 → i ≠ j → i < M) {E : Sd} {b : Int} {L' x' K' y' : Nat} {S1 S2 : Nat → Prop}
    (hb : Below w.heap.size w w2) (hd : LS w2 S1 L' x' E) (hr : RS w2 S2 K' y' E b) (h1 : ∀ k, S1 k → w.heap.size ≤ k) (h2 : ∀ k, S2 k → w.heap.size ≤ k) (h12 : ∀ k, S1 k → S2 k → False)
    (hsz : w3.heap.size = w2.heap.size) (hs : ∀ k, k ≠ P → w3.heap[k]? = w2.heap[k]?) (hblk : Blk w3 P 46 6)
    (hc : ∀ o, o ≠ j → o ≠ 2 + j → o ≠ 4 + j → w3.cell? ⟨P, o, none⟩ = w2.cell? ⟨P, o, none⟩) (hcl : w3.cell? ⟨P, j, none⟩ = some (.pointer (some ⟨L', 0, none⟩))) (hcd : w3.cell? ⟨P, 2 + j, none⟩ = some (.pointer (some ⟨x', 0, none⟩))) (hcr : w3.cell? ⟨P, 4 + j, none⟩ = some (.pointer (some ⟨K', 0, none⟩))) (hB : B ≤ w.heap.size) :
    ∃ R', Wd w3 R' B P 2 (at2 L j L') (at2 x j x') (at2 K j K') (at2 y j y') (at2 e j E) (at2 f j E) (at2 bo j b) := by
  have hPl := h.blk.lt
  have hz := hb.size
  have hP2 := hb.block P hPl
  have lo' : ∀ k, k < w.heap.size → up2 R w.heap.size w2.heap.size S1 S2 (1 + j) (3 + j) k = R k := fun k hk => by unfold up2; rw [if_pos hk]
  have hs' : ∀ k, k < w.heap.size → R k ≠ 5 → w3.heap[k]? = w.heap[k]? := fun k hk h5 => (hs k (by rintro rfl; exact h5 h.rp)).trans (hb.block k hk)
  refine ⟨up2 R w.heap.size w2.heap.size S1 S2 (1 + j) (3 + j), hblk, (lo' P hPl).trans h.rp, fun i hi => ?_, fun i hi => ?_, fun i hi => ?_, fun i hi => ?_, fun i hi => ?_, fun k hk => ?_, fun k hk => (lo' k (by omega)).trans (h.lo k hk), Nat.le_refl 2⟩
  · by_cases c : i = j
    · subst c; rw [at2_same]; exact hcl
    · rw [at2_other _ _ _ _ c, hc i c (by omega) (by omega), cell_same hP2]; exact h.cl i (hM i hi c)
  · by_cases c : i = j
    · subst c; rw [at2_same]; exact hcd
    · rw [at2_other _ _ _ _ c, hc (2 + i) (by omega) (by omega) (by omega), cell_same hP2]; exact h.cd i (hM i hi c)
  · by_cases c : i = j
    · subst c; rw [at2_same]; exact hcr
    · rw [at2_other _ _ _ _ c, hc (4 + i) (by omega) (by omega) (by omega), cell_same hP2]; exact h.cr i (hM i hi c)
  · by_cases c : i = j
    · subst c; rw [at2_same, at2_same, at2_same]
      refine hd.same (fun k hk hs1 => ?_) (fun k hk hs1 => hs k (by rintro rfl; have := h1 _ hs1; omega))
      have := h1 k hs1
      unfold up2; rw [if_neg (by omega), if_neg (by omega), if_pos hs1]
    · rw [at2_other _ _ _ _ c, at2_other _ _ _ _ c, at2_other _ _ _ _ c]
      exact (h.ls i (hM i hi c)).same (fun k hk he => (lo' k hk).trans he) (fun k hk he => hs' k hk (by omega))
  · by_cases c : i = j
    · subst c; rw [at2_same, at2_same, at2_same, at2_same]
      refine hr.same (fun k hk hs1 => ?_) (fun k hk hs1 => hs k (by rintro rfl; have := h2 _ hs1; omega))
      have := h2 k hs1
      unfold up2; rw [if_neg (by omega), if_neg (by omega), if_neg (fun t => h12 k t hs1), if_pos hs1]
    · rw [at2_other _ _ _ _ c, at2_other _ _ _ _ c, at2_other _ _ _ _ c, at2_other _ _ _ _ c]
      exact (h.rs i (hM i hi c)).same (fun k hk he => (lo' k hk).trans he) (fun k hk he => hs' k hk (by omega))
  · unfold up2; rw [if_neg (by omega), if_pos (by omega)]
end
end Go.Proofs.YtmcpjokbkkfgfaaGreatDoor
