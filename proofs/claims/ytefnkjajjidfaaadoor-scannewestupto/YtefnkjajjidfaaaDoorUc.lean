/-
  Layer 9, the functions: refuses, Open, Flush, Free, Over.
-/
import Derived.Test.YtefnkjajjidfaaaDoorUb
namespace Go.Proofs.YtefnkjajjidfaaaDoor
open Go.RowKit
set_option maxHeartbeats 1000000 in
set_option maxRecDepth 100000 in
theorem wref_nil (s : Sup) (t l : Int) (w : World) : Calls Tryd.prog 61 #[.pointer none, .agg (ccells s).toArray, .int .u64 t, .int .u64 l] w fun e w' => e = .returned (.int .i64 1) ∧ Below w.heap.size w w' := by
  have HB : Hid (Below w.heap.size w (w.alloc (.cells (ccells s).toArray 39))) := below_alloc w _
  go_enter Tryd.func61, Tryd.ntmps61
  go_wp2
  go_ret
  exact ⟨rfl, HB.out⟩
set_option maxHeartbeats 1000000 in
set_option maxRecDepth 100000 in
theorem wref_at (s : Sup) (t l : Int) (ht0 : 0 ≤ t) (hl0 : 0 ≤ l) {w : World} {S : Nat → Prop} {p n : Nat} {d : List Int} {ws : List Wr} (h : Dsk w S p n d ws) :
    Calls Tryd.prog 61 #[.pointer (some ⟨p, 0, none⟩), .agg (ccells s).toArray, .int .u64 t, .int .u64 l] w fun e w' => e = .returned (.int .i64 (opnS s n t l)) ∧ Below w.heap.size w w' := by
  have L1 : Hid (_) := CAt.load23 (LAt.new 39 w (ccells s))
  have HA : Hid (CAt (w.alloc (.cells (ccells s).toArray 39)) w.heap.size s) := LAt.new 39 w (ccells s)
  have HB : Hid (Below w.heap.size w (w.alloc (.cells (ccells s).toArray 39))) := below_alloc w _
  have HD : Hid (Dsk w S p n d ws) := h
  clear h
  go_enter Tryd.func61, Tryd.ntmps61
  go_wp2_with ((with_reducible refine at_ops ?_); (refine wpList_load_is (by rfl) 39 rfl rfl L1.out ?_); simp only [Act.put, List.setIfInBounds_toArray, List.set_cons_zero, List.set_cons_succ])
  refine (config_any s _).mono ?_
  rintro e w1 ⟨rfl, b1⟩
  have HA1 : Hid (CAt w1 w.heap.size s) := LAt.later HA.out b1
  have HB1 : Hid (Below w.heap.size w w1) := below_then HB.out b1
  have HD1 : Hid (Dsk w1 S p n d ws) := HD.out.later HB1.out
  clear b1 HA HB L1 HD
  by_cases hc : MayC s
  · rw [cfg_yes s hc]
    have HC : Hid (MayC s) := hc
    obtain ⟨⟨a1, a2⟩, ⟨a3, a4⟩, -⟩ := hc
    obtain ⟨bl, hbl⟩ : ∃ x, x = s.bl := ⟨_, rfl⟩
    obtain ⟨lc, hlc⟩ : ∃ x, x = s.lc := ⟨_, rfl⟩
    have k1 : IntKind.i64.wrap (1 + bl) = 1 + bl := by rw [IntKind.wrap_i64]; omega
    have k2 : IntKind.i64.wrap (1 + bl + lc) = 1 + bl + lc := by rw [IntKind.wrap_i64]; omega
    have HE : Hid ((¬ (n : Int) = 1 + bl + lc → opnS s n t l = 40) ∧ ((n : Int) = 1 + bl + lc → (t > 4611686018427387904 ∨ l > 4611686018427387904) → opnS s n t l = 31) ∧ ((n : Int) = 1 + bl + lc → ¬ (t > 4611686018427387904 ∨ l > 4611686018427387904) → l = 0 → opnS s n t l = 2) ∧ ((n : Int) = 1 + bl + lc → ¬ (t > 4611686018427387904 ∨ l > 4611686018427387904) → ¬ l = 0 → opnS s n t l = 0)) := by
      rw [hbl, hlc]; exact ⟨fun h => opnS_len t l HC.out h, fun h h2 => opnS_wrap HC.out h h2, fun h h2 h3 => opnS_life HC.out h h2 h3, fun h h2 h3 => opnS_ok HC.out h h2 h3⟩
    have HC0 : Hid (∀ w', CAt w' w.heap.size s → w'.cell? ⟨w.heap.size, 0, none⟩ = some (.int .i64 bl) ∧ w'.cell? ⟨w.heap.size, 1, none⟩ = some (.int .i64 lc)) := by rw [hbl, hlc]; exact fun w' h => ⟨CAt.c0 h, CAt.c1 h⟩
    clear hbl hlc a1 a2 a3 a4
    go_wp2_with fail
    refine wp_region_noPanic ?_
    refine wp_region_held_drew (S := fun w' => Below w1.heap.size w1 w') (by kernel_rfl) (below_drawn 1) (fun hHeld => ?_)
    have D1 : Hid (Below w1.heap.size w1 w1.drew) := hHeld
    generalize w1.drew = wd at *
    refine wpAnyH_take (i := 0) (v := ?va1) (by simp; rfl) (by kernel_rfl) (by kernel_rfl) (by kernel_rfl) (fun _ _ _ h => h) (Or.inl ⟨by rfl, ?ya1⟩) hHeld ?ra1
    case ya1 => intro w hSw; clear hSw; go_simp; with_reducible rfl
    simp only [Act.put, List.setIfInBounds_toArray, List.set_cons_zero, List.set_cons_succ]
    refine wpAnyH_take (i := 2) (v := ?va2) (by simp; rfl) (by kernel_rfl) (by kernel_rfl) (by kernel_rfl) (fun _ _ _ h => h) (Or.inl ⟨by rfl, ?ya2⟩) hHeld ?ra2
    case ya2 => intro w hSw; clear hSw; go_simp; with_reducible rfl
    simp only [Act.put, List.setIfInBounds_toArray, List.set_cons_zero, List.set_cons_succ]
    refine wpAnyH_take (i := 3) (v := ?va3) (by simp; rfl) (by kernel_rfl) (by kernel_rfl) (by kernel_rfl) (fun _ _ _ h => h) (Or.inl ⟨by rfl, ?ya3⟩) hHeld ?ra3
    case ya3 => intro w hSw; have z := (HC0.out _ (LAt.later HA1.out hSw)).1; clear hSw; go_simp; with_reducible rfl
    simp only [Act.put, List.setIfInBounds_toArray, List.set_cons_zero, List.set_cons_succ]
    refine wpAnyH_take (i := 4) (v := ?va4) (by simp; rfl) (by kernel_rfl) (by kernel_rfl) (by kernel_rfl) (fun _ _ _ h => h) (Or.inl ⟨by rfl, ?ya4⟩) hHeld ?ra4
    case ya4 => intro w hSw; clear hSw; go_simp; with_reducible rfl
    simp only [Act.put, List.setIfInBounds_toArray, List.set_cons_zero, List.set_cons_succ]
    refine wpAnyH_take (i := 5) (v := ?va5) (by simp; rfl) (by kernel_rfl) (by kernel_rfl) (by kernel_rfl) (fun _ _ _ h => h) (Or.inl ⟨by rfl, ?ya5⟩) hHeld ?ra5
    case ya5 => intro w hSw; clear hSw; go_simp; with_reducible rfl
    simp only [Act.put, List.setIfInBounds_toArray, List.set_cons_zero, List.set_cons_succ]
    refine wpAnyH_take (i := 6) (v := ?va6) (by simp; rfl) (by kernel_rfl) (by kernel_rfl) (by kernel_rfl) (fun _ _ _ h => h) (Or.inl ⟨by rfl, ?ya6⟩) hHeld ?ra6
    case ya6 => intro w hSw; have z := (HC0.out _ (LAt.later HA1.out hSw)).2; clear hSw; go_simp; with_reducible rfl
    simp only [Act.put, List.setIfInBounds_toArray, List.set_cons_zero, List.set_cons_succ]
    refine wpAnyH_take (i := 7) (v := ?va7) (by simp; rfl) (by kernel_rfl) (by kernel_rfl) (by kernel_rfl) (fun _ _ _ h => h) (Or.inl ⟨by rfl, ?ya7⟩) hHeld ?ra7
    case ya7 => intro w hSw; clear hSw; go_simp; with_reducible rfl
    simp only [Act.put, List.setIfInBounds_toArray, List.set_cons_zero, List.set_cons_succ]
    refine wpAnyH_ready (rs := [1]) (by kernel_rfl) (by simp) ?_
    refine AllReadyH.cons (by simp; rfl) (fun Kc hKc => ?_) AllReadyH.nil
    go_simp
    refine (len_any (HD1.out.later D1.out)).mono ?_
    rintro e wn ⟨rfl, rfl⟩
    refine hKc.out _ _ D1.out (fun hHeld => ?_)
    clear hKc Kc
    refine wpAnyH_take (i := 8) (v := ?va8) (by simp; rfl) (by kernel_rfl) (by kernel_rfl) (by kernel_rfl) (fun _ _ _ h => h) (Or.inl ⟨by rfl, ?ya8⟩) hHeld ?ra8
    case ya8 => intro w hSw; clear hSw; go_simp; with_reducible rfl
    simp only [Act.put, List.setIfInBounds_toArray, List.set_cons_zero, List.set_cons_succ]
    have HB2 : Hid (Below w.heap.size w wd) := below_then HB1.out D1.out
    clear hHeld D1 HD1 HC0
    refine wpAnyH_done (by kernel_rfl) (NoPanic.normal ?_) _
    by_cases he : (n : Int) = 1 + bl + lc
    · have hq : ((n : Int) != 1 + bl + lc) = false := by rw [he]; simp
      by_cases hM : t > 4611686018427387904 ∨ l > 4611686018427387904
      · have HR : Hid (_) := HE.out.2.1 he hM
        clear he HE
        by_cases hM1 : 4611686018427387904 < t
        · clear hM
          go_wp2_with fail
          go_ret
          exact ⟨by rw [HR.out]; rfl, HB2.out⟩
        · have hM2 : 4611686018427387904 < l := by omega
          clear hM
          go_wp2_with fail
          go_ret
          exact ⟨by rw [HR.out]; rfl, HB2.out⟩
      · have hM1 : ¬ 4611686018427387904 < t := by omega
        have hM2 : ¬ 4611686018427387904 < l := by omega
        by_cases h0 : l = 0
        · have HR : Hid (_) := HE.out.2.2.1 he hM h0
          clear he HE hM
          subst h0
          go_wp2_with fail
          go_ret
          exact ⟨by rw [HR.out]; rfl, HB2.out⟩
        · have HR : Hid (_) := HE.out.2.2.2 he hM h0
          clear he HE hM
          go_wp2_with fail
          go_ret
          exact ⟨by rw [HR.out]; rfl, HB2.out⟩
    · have hq : ((n : Int) != 1 + bl + lc) = true := by simp [he]
      have HR : Hid (_) := HE.out.1 he
      clear he HE
      go_wp2_with fail
      go_ret
      exact ⟨by rw [HR.out]; rfl, HB2.out⟩
  · rw [cfg_no s hc]
    have HR : Hid (opnS s n t l = 3) := opnS_no _ _ _ hc
    clear hc
    go_wp2_with fail
    go_ret
    exact ⟨by rw [HR.out]; rfl, HB1.out⟩
theorem Kept.drewN {S : Nat → Prop} {a w : World} (h : Kept S a w) (n : Nat) : Kept S a (w.drewN n) := ⟨h.os, h.tape, h.output, h.size, h.block⟩
def plL : List (Nat × Nat) := [(0, 1), (1, 5), (6, 1), (7, 1), (8, 1), (9, 1), (10, 1), (11, 1)]
theorem placesL : placesOf Tryd.prog 127 = some plL := by kernel_rfl
def lg0 : Lg := ⟨sup0, 0, 0, 0, 0, 0, 0⟩
theorem zeroL : (Tryd.prog.info? 127).bind (·.zero) = some (.agg (lcells none lg0).toArray) := by kernel_rfl
theorem sizeL : (Tryd.prog.info? 127).map (·.size) = some 12 := by kernel_rfl
theorem fillL (dp : Option Addr) (s : Sup) (t l : Int) : Instr.fill (plL.toArray[·]?) (lcells none lg0).toArray [(0, .pointer dp), (1, .agg (ccells s).toArray), (2, .int .u64 l), (3, .int .u64 t), (4, .int .u64 t), (5, .int .u64 t), (7, .int .i64 (-1))] = some (lcells dp (opnG s t l)).toArray := by
  rw [fill_step 0 1 0 rfl _ [.pointer dp] _ rfl rfl (by simp [lcells]), fill_step 1 5 1 rfl _ (ccells s) _ rfl rfl (by simp [lcells]), fill_step 6 1 2 rfl _ [.int .u64 l] _ rfl rfl (by simp [lcells, ccells]), fill_step 7 1 3 rfl _ [.int .u64 t] _ rfl rfl (by simp [lcells, ccells]), fill_step 8 1 4 rfl _ [.int .u64 t] _ rfl rfl (by simp [lcells, ccells]), fill_step 9 1 5 rfl _ [.int .u64 t] _ rfl rfl (by simp [lcells, ccells]), fill_step 11 1 7 rfl _ [.int .i64 (-1)] _ rfl rfl (by simp [lcells, ccells])]
  rfl
theorem buildL (w : World) (dp : Option Addr) (s : Sup) (t l : Int) : (Instr.build 127 #[(0, .pointer dp), (1, .agg (ccells s).toArray), (2, .int .u64 l), (3, .int .u64 t), (4, .int .u64 t), (5, .int .u64 t), (7, .int .i64 (-1))]).run Tryd.prog w = .ok (.agg (lcells dp (opnG s t l)).toArray) w :=
  run_build w 127 _ _ ((built_of 127 _ _ _ placesL zeroL).trans (fillL dp s t l))
theorem allocL (w : World) : (Instr.alloc 127 true (.tuple #[])).run Tryd.prog w = .ok (.pointer (some ⟨w.heap.size, 0, none⟩)) (w.alloc (.cells (lcells none lg0).toArray 127)) := by
  simp [Instr.alloc, zv 127 _ zeroL w, newVar, newRow, Value.cells]
theorem GAt.loadL {w : World} {L : Nat} {dp : Option Addr} {g : Lg} (h : GAt w L dp g) : (Instr.loadAt 127 (.pointer (some ⟨L, 0, none⟩))).run Tryd.prog w = .ok (.agg (lcells dp g).toArray) w :=
  run_loadAt_mid w L 0 127 (lcells dp g) _ (LAt.range h) Tryd.underlying127 rfl (by rw [sizeL]; rfl)
theorem store_newL (w : World) (dp : Option Addr) (g : Lg) : (Instr.storeAt 127 (.pointer (some ⟨w.heap.size, 0, none⟩)) (.agg (lcells dp g).toArray)).run Tryd.prog (w.alloc (.cells (lcells none lg0).toArray 127)) = .ok () (w.alloc (.cells (lcells dp g).toArray 127)) := by
  rw [LAt.store (ds := lcells dp g) (LAt.new 127 w (lcells none lg0)) (by rw [sizeL]; rfl) rfl (lcells_all dp g), setRow_alloc]
set_option maxHeartbeats 1000000 in
set_option maxRecDepth 100000 in
theorem open_nil (s : Sup) (t l : Int) (w : World) : Calls Tryd.prog 32 #[.pointer none, .agg (ccells s).toArray, .int .u64 t, .int .u64 l] w fun e w' => e = .returned (.tuple #[.pointer none, .int .i64 1]) ∧ Below w.heap.size w w' := by
  have HB : Hid (Below w.heap.size w (w.alloc (.cells (ccells s).toArray 39))) := below_alloc w _
  have L1 : Hid (_) := CAt.load23 (LAt.new 39 w (ccells s))
  go_enter Tryd.func32, Tryd.ntmps32
  go_wp2_with ((with_reducible refine at_ops ?_); (refine wpList_load_is (by rfl) 39 rfl rfl L1.out ?_); simp only [Act.put, List.setIfInBounds_toArray, List.set_cons_zero, List.set_cons_succ])
  refine (wref_nil s t l _).mono ?_
  rintro e w1 ⟨rfl, b1⟩
  have HB1 : Hid (Below w.heap.size w w1) := below_then HB.out b1
  clear b1 HB L1
  go_wp2_with fail
  go_ret2
  exact ⟨rfl, HB1.out⟩
set_option maxHeartbeats 1000000 in
set_option maxRecDepth 100000 in
theorem open_no (s : Sup) (t l : Int) (ht0 : 0 ≤ t) (hl0 : 0 ≤ l) {w : World} {S : Nat → Prop} {p n : Nat} {d : List Int} {ws : List Wr} (h : Dsk w S p n d ws) (hr : ¬ opnS s n t l = 0) :
    Calls Tryd.prog 32 #[.pointer (some ⟨p, 0, none⟩), .agg (ccells s).toArray, .int .u64 t, .int .u64 l] w fun e w' => e = .returned (.tuple #[.pointer none, .int .i64 (opnS s n t l)]) ∧ Below w.heap.size w w' := by
  have HB : Hid (Below w.heap.size w (w.alloc (.cells (ccells s).toArray 39))) := below_alloc w _
  have L1 : Hid (_) := CAt.load23 (LAt.new 39 w (ccells s))
  have HD : Hid (Dsk (w.alloc (.cells (ccells s).toArray 39)) S p n d ws) := h.later HB.out
  clear h
  go_enter Tryd.func32, Tryd.ntmps32
  go_wp2_with ((with_reducible refine at_ops ?_); (refine wpList_load_is (by rfl) 39 rfl rfl L1.out ?_); simp only [Act.put, List.setIfInBounds_toArray, List.set_cons_zero, List.set_cons_succ])
  refine (wref_at s t l ht0 hl0 HD.out).mono ?_
  rintro e w1 ⟨rfl, b1⟩
  have HB1 : Hid (Below w.heap.size w w1) := below_then HB.out b1
  clear b1 HB L1 HD
  obtain ⟨q, hq0⟩ : ∃ q, q = opnS s n t l := ⟨_, rfl⟩
  have HQ : Hid (q = opnS s n t l) := hq0
  rw [← hq0] at hr ⊢
  have hq : (q != 0) = true := by simp [hr]
  clear hq0
  go_wp2_with fail
  go_ret2
  exact ⟨by rw [← HQ.out]; rfl, HB1.out⟩
set_option maxHeartbeats 1000000 in
set_option maxRecDepth 100000 in
theorem open_ok (s : Sup) (t l : Int) (ht0 : 0 ≤ t) (hl0 : 0 ≤ l) {w : World} {S : Nat → Prop} {p n : Nat} {d : List Int} {ws : List Wr} (h : Dsk w S p n d ws) (hr : opnS s n t l = 0) :
    Calls Tryd.prog 32 #[.pointer (some ⟨p, 0, none⟩), .agg (ccells s).toArray, .int .u64 t, .int .u64 l] w fun e w' => ∃ L, e = .returned (.tuple #[.pointer (some ⟨L, 0, none⟩), .int .i64 0]) ∧ w.heap.size ≤ L ∧ LD w' (More S w) L p d ws (opnG s t l) ∧ Below w.heap.size w w' := by
  have HB : Hid (Below w.heap.size w (w.alloc (.cells (ccells s).toArray 39))) := below_alloc w _
  have L1 : Hid (_) := CAt.load23 (LAt.new 39 w (ccells s))
  have HA : Hid (CAt (w.alloc (.cells (ccells s).toArray 39)) w.heap.size s) := LAt.new 39 w (ccells s)
  have HD : Hid (Dsk w S p n d ws) := h
  have HR : Hid (opnS s n t l = 0) := hr
  clear h hr
  go_enter Tryd.func32, Tryd.ntmps32
  go_wp2_with ((with_reducible refine at_ops ?_); (refine wpList_load_is (by rfl) 39 rfl rfl L1.out ?_); simp only [Act.put, List.setIfInBounds_toArray, List.set_cons_zero, List.set_cons_succ])
  refine (wref_at s t l ht0 hl0 (HD.out.later HB.out)).mono ?_
  rintro e w1 ⟨rfl, b1⟩
  have HB1 : Hid (Below w.heap.size w w1) := below_then HB.out b1
  have HA1 : Hid (CAt w1 w.heap.size s) := LAt.later HA.out b1
  have L2 : Hid (_) := CAt.load23 HA1.out
  have B2 : Hid (_) := buildL w1 (some ⟨p, 0, none⟩) s t l
  rw [HR.out]
  clear b1 HB L1 HA
  go_wp2_with ((with_reducible refine at_ops ?_); (first | (refine wpList_load_is (by rfl) 39 rfl rfl L2.out ?_) | (refine wpList_build_is (vs := [(0, .pointer (some ⟨p, 0, none⟩)), (1, .agg (ccells s).toArray), (2, .int .u64 l), (3, .int .u64 t), (4, .int .u64 t), (5, .int .u64 t), (7, .int .i64 (-1))]) (by rfl) 127 rfl (by rfl) B2.out ?_)); simp only [Act.put, List.setIfInBounds_toArray, List.set_cons_zero, List.set_cons_succ])
  go_ret2
  have hb2 := below_alloc w1 (.cells (lcells (some ⟨p, 0, none⟩) (opnG s t l)).toArray 127)
  have hn : n = (opnG s t l).sz := by
    have h1 := (opnS_zero HR.out).2.1
    have h2 := (opnG_ok HR.out ht0 hl0).sz_is
    have h3 : (opnG s t l).c = s := rfl
    rw [h3] at h2
    omega
  have hb3 := below_then HB1.out hb2
  have hs := HB1.out.size
  refine ⟨w1.heap.size, rfl, hs, ⟨LAt.new 127 w1 _, ?_, .inr hs, opnG_ok HR.out ht0 hl0⟩, hb3⟩
  rw [← hn]
  have hd := HD.out
  obtain ⟨q, cap, v, hd⟩ := hd
  refine ⟨q, cap, v, hd.same (fun k hk hs' => ⟨.inl hs', by omega⟩) (fun k hk _ => hb3.block k hk)⟩
set_option maxHeartbeats 1000000 in
set_option maxRecDepth 100000 in
theorem wflush_nil (w : World) : Calls Tryd.prog 26 #[.pointer none] w fun e w' => e = .returned (.tuple #[.int .i64 0, .int .i64 1]) ∧ w = w' := by
  go_enter Tryd.func26, Tryd.ntmps26
  go_wp2_with fail
  refine (lacks_nil w).mono ?_
  rintro e w1 ⟨rfl, rfl⟩
  go_wp2_with fail
  go_ret2
  exact ⟨rfl, rfl⟩
set_option maxHeartbeats 1000000 in
set_option maxRecDepth 100000 in
theorem wflush_none {w : World} {L : Nat} {g : Lg} (h : GAt w L none g) : Calls Tryd.prog 26 #[.pointer (some ⟨L, 0, none⟩)] w fun e w' => e = .returned (.tuple #[.int .i64 0, .int .i64 1]) ∧ w = w' := by
  go_enter Tryd.func26, Tryd.ntmps26
  go_wp2_with fail
  refine (lacks_none h).mono ?_
  rintro e w1 ⟨rfl, rfl⟩
  go_wp2_with fail
  go_ret2
  exact ⟨rfl, rfl⟩
set_option maxHeartbeats 1000000 in
set_option maxRecDepth 100000 in
theorem wflush_at {w : World} {S : Nat → Prop} {L p : Nat} {d : List Int} {ws : List Wr} {g : Lg} (h : LD w S L p d ws g) (hk : ws.length ≤ 100000) : Calls Tryd.prog 26 #[.pointer (some ⟨L, 0, none⟩)] w fun e w' => e = .returned (.tuple #[.int .i64 ws.length, .int .i64 0]) ∧ LD w' S L p (settle (fun _ => true) ws d) [] g ∧ Kept S w w' := by
  have HG : Hid (LD w S L p d ws g) := h
  have c0 := GAt.c0 h.log
  clear h
  go_enter Tryd.func26, Tryd.ntmps26
  go_wp2_with fail
  refine (lacks_some HG.out.log).mono ?_
  rintro e w1 ⟨rfl, rfl⟩
  go_wp2_with fail
  refine (flush_any HG.out.dsk hk).mono ?_
  rintro e w1 ⟨rfl, hd, hkp⟩
  have HX : Hid (_) := HG.out.flushed hd hkp
  clear hd hkp c0
  go_wp2_with fail
  go_ret2
  exact ⟨rfl, HX.out.1, HX.out.2⟩
end Go.Proofs.YtefnkjajjidfaaaDoor
