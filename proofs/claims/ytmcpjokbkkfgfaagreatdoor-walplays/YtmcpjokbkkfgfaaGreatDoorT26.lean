/-
  Layer 9, the document's log: Mark.
-/
import Derived.Test.YtmcpjokbkkfgfaaGreatDoorT24
import Derived.Test.YtmcpjokbkkfgfaaGreatDoorT25
import Derived.Test.YtmcpjokbkkfgfaaGreatDoorT21
import Derived.Test.YtmcpjokbkkfgfaaGreatDoorT15
namespace Go.Proofs.YtmcpjokbkkfgfaaGreatDoor
open Go.RowKit


set_option maxHeartbeats 1000000 in
set_option maxRecDepth 100000 in
theorem rmark_none {w : World} {L : Nat} {g : Lg} {b : Int} (h : HAt w L none g b) (t : Int) : Calls Tryz.prog 53 #[.pointer (some ⟨L, 0, none⟩), .int .u64 t] w fun e w' => e = .returned (.int .i64 1) ∧ w = w' := by
  have c0 := HAt.c0 h
  clear h
  go_enter Tryz.func53, Tryz.ntmps53
  go_wp2_with fail
  go_ret
  exact ⟨rfl, rfl⟩
set_option maxHeartbeats 1000000 in
set_option maxRecDepth 100000 in
theorem rmark_no {w : World} {L p : Nat} {g : Lg} {b : Int} (h : HAt w L (some ⟨p, 0, none⟩) g b) (t : Int) (ho : Out g t) : Calls Tryz.prog 53 #[.pointer (some ⟨L, 0, none⟩), .int .u64 t] w fun e w' => e = .returned (.int .i64 2) ∧ w = w' := by
  have c0 := HAt.c0 h
  have c7 := HAt.c7 h
  have c8 := HAt.c8 h
  clear h
  go_enter Tryz.func53, Tryz.ntmps53
  by_cases h1 : t < g.tail
  · clear ho
    go_wp2_with fail
    go_ret
    exact ⟨rfl, rfl⟩
  · have h2 : g.fin < t := by rcases ho with h | h <;> omega
    clear ho
    go_wp2_with fail
    go_ret
    exact ⟨rfl, rfl⟩
set_option maxHeartbeats 2000000 in
set_option maxRecDepth 100000 in
theorem rmark_ok {w : World} {S : Nat → Prop} {L p : Nat} {d : List Int} {ws : List Wr} {g : Lg} {b : Int} (h : RL w S L p d ws g b) (hk : ws.length ≤ 100000) (t : Int) (ho : ¬ Out g t) :
    Calls Tryz.prog 53 #[.pointer (some ⟨L, 0, none⟩), .int .u64 t] w fun e w' => e = .returned (.int .i64 0) ∧ RL w' (More S w) L p d (ws ++ [⟨0, encS (supL g t)⟩]) (mkG g t) b ∧ Kept S w w' := by
  have HG : Hid (RL w S L p d ws g b) := h
  have HO : Hid (¬ Out g t) := ho
  have c0 := HAt.c0 h.log
  have c7 := HAt.c7 h.log
  have c8 := HAt.c8 h.log
  have h1 : ¬ t < g.tail := fun h => ho (.inl h)
  have h2 : ¬ g.fin < t := fun h => ho (.inr h)
  clear h ho
  go_enter Tryz.func53, Tryz.ntmps53
  have BB : Hid (∀ w, (Instr.build 162 #[(0, .agg (ccells g.c).toArray), (1, .int .u64 t), (2, .int .u64 g.life)]).run Tryz.prog w = .ok (.agg (scells (supL g t)).toArray) w) := fun w => build26 w _ (supL g t) (fill_all (supL g t))
  go_wp2_with fail
  clear c0 c7 c8
  refine wp_region_noPanic ?_
  refine wp_region_held_drew (S := fun w' => Below w.heap.size w w') (by kernel_rfl) (below_drawn 1) (fun hHeld => ?_)
  have D1 : Hid (Below w.heap.size w w.drew) := hHeld
  generalize w.drew = wd at *
  refine wpAnyH_take (i := 0) (v := ?va1) (by simp; rfl) (by kernel_rfl) (by kernel_rfl) (by kernel_rfl) (fun _ _ _ h => h) (Or.inl ⟨by rfl, ?ya1⟩) hHeld ?ra1
  case ya1 => intro w hSw; clear hSw; go_simp; with_reducible rfl
  simp only [Act.put, List.setIfInBounds_toArray, List.set_cons_zero, List.set_cons_succ]
  refine wpAnyH_take (i := 1) (v := ?va2) (by simp; rfl) (by kernel_rfl) (by kernel_rfl) (by kernel_rfl) (fun _ _ _ h => h) (Or.inl ⟨by rfl, ?ya2⟩) hHeld ?ra2
  case ya2 => intro w hSw; clear hSw; go_simp; with_reducible rfl
  simp only [Act.put, List.setIfInBounds_toArray, List.set_cons_zero, List.set_cons_succ]
  refine wpAnyH_take (i := 2) (v := ?va3) (by simp; rfl) (by kernel_rfl) (by kernel_rfl) (by kernel_rfl) (fun _ _ _ h => h) (Or.inl ⟨by rfl, ?ya3⟩) hHeld ?ra3
  case ya3 => intro w hSw; clear hSw; go_simp; with_reducible rfl
  simp only [Act.put, List.setIfInBounds_toArray, List.set_cons_zero, List.set_cons_succ]
  refine wpAnyH_take (i := 3) (v := _) (by simp; rfl) (by kernel_rfl) (by kernel_rfl) (by kernel_rfl) (fun _ _ _ h => h) (yieldsIf_load_mid (by rfl) 23 (.tmp 29) rfl L 1 rfl (ccells g.c) _ (fun _ h => HAt.rangeC (LAt.later HG.out.log h)) Tryz.underlying23 rfl (by rw [size23, ccells_len])) hHeld ?_
  simp only [Act.put, List.setIfInBounds_toArray, List.set_cons_zero, List.set_cons_succ]
  refine wpAnyH_take (i := 4) (v := ?va4) (by simp; rfl) (by kernel_rfl) (by kernel_rfl) (by kernel_rfl) (fun _ _ _ h => h) (Or.inl ⟨by rfl, ?ya4⟩) hHeld ?ra4
  case ya4 => intro w hSw; clear hSw; go_simp; with_reducible rfl
  simp only [Act.put, List.setIfInBounds_toArray, List.set_cons_zero, List.set_cons_succ]
  refine wpAnyH_take (i := 5) (v := ?va5) (by simp; rfl) (by kernel_rfl) (by kernel_rfl) (by kernel_rfl) (fun _ _ _ h => h) (Or.inl ⟨by rfl, ?ya5⟩) hHeld ?ra5
  case ya5 => intro w hSw; clear hSw; go_simp; with_reducible rfl
  simp only [Act.put, List.setIfInBounds_toArray, List.set_cons_zero, List.set_cons_succ]
  refine wpAnyH_take (i := 6) (v := ?va6) (by simp; rfl) (by kernel_rfl) (by kernel_rfl) (by kernel_rfl) (fun _ _ _ h => h) (Or.inl ⟨by rfl, ?ya6⟩) hHeld ?ra6
  case ya6 => intro w hSw; clear hSw; go_simp; with_reducible rfl
  simp only [Act.put, List.setIfInBounds_toArray, List.set_cons_zero, List.set_cons_succ]
  refine wpAnyH_take (i := 7) (v := ?va7) (by simp; rfl) (by kernel_rfl) (by kernel_rfl) (by kernel_rfl) (fun _ _ _ h => h) (Or.inl ⟨by rfl, ?ya7⟩) hHeld ?ra7
  case ya7 => intro w hSw; clear hSw; go_simp; with_reducible rfl
  simp only [Act.put, List.setIfInBounds_toArray, List.set_cons_zero, List.set_cons_succ]
  refine wpAnyH_take (i := 8) (v := ?va8) (by simp; rfl) (by kernel_rfl) (by kernel_rfl) (by kernel_rfl) (fun _ _ _ h => h) (Or.inl ⟨by rfl, ?ya8⟩) hHeld ?ra8
  case ya8 => intro w hSw; have z := HAt.c6 (LAt.later HG.out.log hSw); clear hSw; go_simp; with_reducible rfl
  simp only [Act.put, List.setIfInBounds_toArray, List.set_cons_zero, List.set_cons_succ]
  refine wpAnyH_take (i := 9) (v := _) (by simp; rfl) (by kernel_rfl) (by kernel_rfl) (by kernel_rfl) (fun _ _ _ h => h) (R.yields_build_is (by rfl) 162 rfl (by rfl) BB.out) hHeld ?_
  simp only [Act.put, List.setIfInBounds_toArray, List.set_cons_zero, List.set_cons_succ]
  refine wpAnyH_ready (rs := [10]) (by kernel_rfl) (by simp) ?_
  refine AllReadyH.cons (by simp; rfl) (fun Kc hKc => ?_) AllReadyH.nil
  go_simp
  refine (refEncode_any (supL g t) (supL_wf HG.out.ok HO.out) _).mono ?_
  rintro e w2 ⟨q2, n2, c2, rfl, hn2, m2⟩
  rw [encT_yes _ (supL_may HG.out.ok HO.out)] at hn2 m2
  obtain rfl : n2 = 64 := by rw [hn2, encS_len]
  have B2 : Hid (Below w.heap.size w w2) := below_then D1.out m2.below
  have X2 : Hid (BIn w2 q2 64 (encS (supL g t))) := m2.read
  refine hKc.out _ _ B2.out (fun hHeld => ?_)
  clear hKc Kc m2 hn2
  refine wpAnyH_take (i := 11) (v := ?va9) (by simp; rfl) (by kernel_rfl) (by kernel_rfl) (by kernel_rfl) (fun _ _ _ h => h) (Or.inl ⟨by rfl, ?ya9⟩) hHeld ?ra9
  case ya9 => intro w hSw; clear hSw; go_simp; with_reducible rfl
  simp only [Act.put, List.setIfInBounds_toArray, List.set_cons_zero, List.set_cons_succ]
  refine wpAnyH_take (i := 12) (v := ?va10) (by simp; rfl) (by kernel_rfl) (by kernel_rfl) (by kernel_rfl) (fun _ _ _ h => h) (Or.inl ⟨by rfl, ?ya10⟩) hHeld ?ra10
  case ya10 => intro w hSw; clear hSw; go_simp; with_reducible rfl
  simp only [Act.put, List.setIfInBounds_toArray, List.set_cons_zero, List.set_cons_succ]
  refine wpAnyH_take (i := 13) (v := ?va11) (by simp; rfl) (by kernel_rfl) (by kernel_rfl) (by kernel_rfl) (fun _ _ _ h => h) (Or.inl ⟨by rfl, ?ya11⟩) hHeld ?ra11
  case ya11 => intro w hSw; clear hSw; go_simp; with_reducible rfl
  simp only [Act.put, List.setIfInBounds_toArray, List.set_cons_zero, List.set_cons_succ]
  refine wpAnyH_take (i := 14) (v := ?va12) (by simp; rfl) (by kernel_rfl) (by kernel_rfl) (by kernel_rfl) (fun _ _ _ h => h) (Or.inl ⟨by rfl, ?ya12⟩) hHeld ?ra12
  case ya12 => intro w hSw; clear hSw; go_simp; with_reducible rfl
  simp only [Act.put, List.setIfInBounds_toArray, List.set_cons_zero, List.set_cons_succ]
  refine wpAnyH_take (i := 15) (v := ?va13) (by simp; rfl) (by kernel_rfl) (by kernel_rfl) (by kernel_rfl) (fun _ _ _ h => h) (Or.inl ⟨by rfl, ?ya13⟩) hHeld ?ra13
  case ya13 => intro w hSw; clear hSw; go_simp; with_reducible rfl
  simp only [Act.put, List.setIfInBounds_toArray, List.set_cons_zero, List.set_cons_succ]
  clear hHeld
  refine wpAnyH_done (by kernel_rfl) (NoPanic.normal ?_) _
  have HG2 : Hid (RL w2 S L p d ws g b) := HG.out.later B2.out
  have c0 := HAt.c0 HG2.out.log
  have hz : (0 : Int) < (g.sz : Nat) := by have := HG.out.ok.sz_is; have := HG.out.ok.cf.1; have := HG.out.ok.cf.2.1; omega
  go_wp2_with fail
  refine (rwrite_at HG2.out.dsk 0 (Int.le_refl 0) hz _ _ _ X2.out hk).mono ?_
  rintro e w3 ⟨rfl, d3, k3⟩
  have Y3 : Hid (RL w3 (More S w2) L p d (ws ++ [⟨0, encS (supL g t)⟩]) g b ∧ Kept S w2 w3) := HG2.out.wrote d3 k3
  have c9 := HAt.c9 Y3.out.1.log
  have cf9 := HAt.free Y3.out.1.log 9
  clear d3 k3 X2
  go_wp2_with fail
  go_ret
  have hs := B2.out.size
  refine ⟨rfl, ?_, ?_⟩
  · refine (Y3.out.1.set 9 _ (g' := mkG g t) (HAt.setM Y3.out.1.log t) rfl (mkG_ok HG.out.ok HO.out) Y3.out.1.bk).mono ?_
    rintro k _ (h | h)
    · exact .inl h
    · exact .inr (by omega)
  · exact ((Kept.of_below (S := S) B2.out).trans (T := S) Y3.out.2 (fun _ _ t => t)).setCell (p := ⟨L, 9, none⟩) (fun _ => HG.out.sl) _
end Go.Proofs.YtmcpjokbkkfgfaaGreatDoor

/-
  Layer 6: the document's Decode; Plain, Own.
-/
namespace Go.Proofs.YtmcpjokbkkfgfaaGreatDoor.R
open Go.RowKit
set_option maxHeartbeats 1000000 in
set_option maxRecDepth 100000 in
theorem refDecode_len (p : Option Addr) (n c : Nat) (w : World) (hn : n ≠ 64) :
    Calls Tryz.prog 57 #[.slice p n c] w fun e w' => e = .returned (.tuple #[.agg (rcells rec0).toArray, .int .i64 2]) ∧ Below w.heap.size w w' := by
  have A1 : Hid (_) := alloc37 w
  have R1 : Hid (RAt 87 (w.alloc (.cells (rcells rec0).toArray 87)) w.heap.size rec0) := RAt.new 87 w rec0
  have B1 : Hid (_) := build37 (w.alloc (.cells (rcells rec0).toArray 87)) #[] rec0 fill_none
  have S1 : Hid (_) := store_new size37 w rec0 rec0_len
  have hn' : (((n : Nat) : Int) != 64) = true := by simp; omega
  go_enter Tryz.func57, Tryz.ntmps57
  go_wp2_with ((with_reducible refine at_seq ?_); (first | (refine wpList_alloc_is (by rfl) 87 rfl A1.out ?_) | (refine wpList_build_is (vs := []) (by rfl) 87 rfl (by rfl) B1.out ?_) | (refine wpList_store_is (by rfl) 87 rfl rfl rfl S1.out ?_)); simp only [Act.put, List.setIfInBounds_toArray, List.set_cons_zero, List.set_cons_succ])
  exact bodyPost_ret (results_rec Tryz.results57 _ _ w.heap.size 87 _ _ (by rfl) R1.out rec0_len Tryz.underlying87 rfl size37) rfl ⟨rfl, below_alloc w _⟩
theorem RAt.setv {t : TypeId} {w : World} {g : Nat} {r : Rec} (h : RAt t w g r) (j : Nat) (x : Int) (hj : j < r.val.length) : RAt t (w.setCell ⟨g, 3 + j, none⟩ (.int .u8 x)) g ⟨r.kind, r.pos, r.block, r.val.set j x, r.images⟩ := by
  have := heap_setCell_same w g (3 + j) _ t (.int .u8 x) h
  unfold RAt
  rw [this, List.setIfInBounds_toArray]
  congr 3
  simp only [rcells]
  rw [show 3 + j = j + 1 + 1 + 1 by omega, List.set_cons_succ, List.set_cons_succ, List.set_cons_succ, List.set_append_left _ _ (by rw [U8_length]; exact hj)]
  simp [U8, List.map_set]
theorem build_ku (w : World) (k u : Int) : (Instr.build 87 #[(0, .int .i64 k), (1, .int .u64 u)]).run Tryz.prog w = .ok (.agg (rcells ⟨k, u, 0, zs 32, 0⟩).toArray) w :=
  build37 w _ _ ((fill_k rec0 rec0_len k _).trans (fill_p ⟨k, 0, 0, zs 32, 0⟩ (zs_len 32) u []))
theorem build_all31 (w : World) (r : Rec) (hv : r.val.length = 32) : (Instr.build 62 #[(0, .int .i64 r.kind), (1, .int .u64 r.pos), (2, .int .i64 r.block), (3, .agg (U8 r.val).toArray), (4, .int .i64 r.images)]).run Tryz.prog w = .ok (.agg (rcells r).toArray) w :=
  build31 w _ r ((fill_k rec0 rec0_len r.kind _).trans ((fill_p ⟨r.kind, 0, 0, zs 32, 0⟩ (zs_len 32) r.pos _).trans ((fill_b ⟨r.kind, r.pos, 0, zs 32, 0⟩ (zs_len 32) r.block _).trans ((fill_v ⟨r.kind, r.pos, r.block, zs 32, 0⟩ (zs_len 32) r.val hv _).trans (fill_i ⟨r.kind, r.pos, r.block, r.val, 0⟩ hv r.images [])))))
set_option maxHeartbeats 4000000 in
set_option maxRecDepth 100000 in
theorem refDecode_64 (p : Option Addr) (c : Nat) (xs : List Int) (w : World) (hx : BIn w p 64 xs) :
    Calls Tryz.prog 57 #[.slice p 64 c] w fun e w' => e = .returned (.tuple #[.agg (rcells (decS xs).1).toArray, .int .i64 (decS xs).2]) ∧ Below w.heap.size w w' := by
  obtain ⟨b, o, rfl, -⟩ := hx.cells (by omega)
  have A1 : Hid (_) := alloc37 w
  obtain ⟨w1, hw1⟩ : ∃ w1, w1 = w.alloc (.cells (rcells rec0).toArray 87) := ⟨_, rfl⟩
  have b1 : Below w.heap.size w w1 := by rw [hw1]; exact below_alloc w _
  have R1 : Hid (RAt 87 w1 w.heap.size rec0) := by rw [hw1]; exact RAt.new 87 w rec0
  have X1 : Hid (BIn w1 (some ⟨b, o, none⟩) 64 xs) := hx.later b1
  have B1 : Hid (Below w.heap.size w w1) := b1
  have HW : Hid ((readS xs).Wf) := readS_wf xs hx.byte hx.len
  have HL : Hid (xs.length = 64) := hx.len
  have HBD := parts_bd xs hx.byte hx.len
  have HRS : Hid (readS xs = ⟨xs.getD 1 0, worth ((xs.drop 4).take 8), if xs.getD 1 0 = 1 then worth ((xs.drop 12).take 4) else 0, (xs.drop 16).take 32, if xs.getD 1 0 = 1 then 0 else worth ((xs.drop 12).take 4)⟩) := rfl
  have x1 := X1.out.cell 1 (by omega)
  have HVL : Hid (((xs.drop 16).take 32).length = 32) := by show _ = _; simp [hx.len]
  rw [← hw1] at A1
  clear hx hw1 b1
  go_enter Tryz.func57, Tryz.ntmps57
  go_wp2_with ((with_reducible refine at_seq ?_); (refine wpList_alloc_is (by rfl) 87 rfl A1.out ?_); simp only [Act.put, List.setIfInBounds_toArray, List.set_cons_zero, List.set_cons_succ])
  clear A1
  have HB : Hid (Bytes xs) := X1.out.byte
  have HXG : Hid (∀ j, j < 32 → xs.getD (16 + j) 0 = ((xs.drop 16).take 32).getD j 0) := by
    intro j hj
    simp only [List.getD, List.getElem?_take, hj, if_true, List.getElem?_drop]
  have HU : Hid (worth ((xs.drop 4).take 8) = worth ((xs.drop 4).take 8)) := rfl
  have NUM8 : Hid (∀ w', BIn w' (some ⟨b, o, none⟩) 64 xs → Calls Tryz.prog 87 #[.slice (some ⟨b, o, none⟩) 64 c, .int .i64 4, .int .i64 8] w' fun e w'' => e = .returned (.int .u64 (worth ((xs.drop 4).take 8))) ∧ w' = w'') := fun w' h => refNumber_any _ c 4 8 xs w' h (by omega) (by omega)
  have NUM4 : Hid (∀ w', BIn w' (some ⟨b, o, none⟩) 64 xs → Calls Tryz.prog 87 #[.slice (some ⟨b, o, none⟩) 64 c, .int .i64 12, .int .i64 4] w' fun e w'' => e = .returned (.int .u64 (worth ((xs.drop 12).take 4))) ∧ w' = w'') := fun w' h => refNumber_any _ c 12 4 xs w' h (by omega) (by omega)
  obtain ⟨V, hV⟩ : ∃ V, V = (xs.drop 16).take 32 := ⟨_, rfl⟩
  rw [← hV] at HVL HRS HXG
  clear hV HU
  generalize xs.getD 1 0 = k at *
  generalize worth ((xs.drop 4).take 8) = u at *
  generalize worth ((xs.drop 12).take 4) = m at *
  obtain ⟨⟨k0, k1⟩, ⟨u0, u1⟩, m0, m1⟩ := HBD
  have BK : Hid (_) := fun w => build_ku w k u
  have kw : IntKind.i64.wrap k = k := by rw [IntKind.wrap_i64]; omega
  refine Code.wp_mono (Q := fun e a W => ∃ (g4 : Nat), e = .normal ∧ Hid (RAt 87 W g4 ⟨k, u, 0, zs 32, 0⟩ ∧ w1.heap.size ≤ g4 ∧ Below w1.heap.size w1 W) ∧ a = { tmps := #[.slice (some ⟨b, o, none⟩) 64 c, undef, .pointer (some ⟨w.heap.size, 0, none⟩), .int .i64 0, .pointer (some ⟨g4, 0, none⟩), undef, undef, undef, undef, .slice (some ⟨b, o, none⟩) 64 c, .int .i64 64, .bool false, undef, .slice (some ⟨b, o, none⟩) 64 c, .pointer (some ⟨b, o + 1, none⟩), .int .u8 k, .int .i64 k, .slice (some ⟨b, o, none⟩) 64 c, .int .u64 u, .agg (rcells ⟨k, u, 0, zs 32, 0⟩).toArray, undef, undef, undef, undef, undef, undef, undef, undef, undef, undef, undef, undef, undef, undef, undef, undef, undef, undef, undef, undef, undef, undef, undef, undef, undef, undef, undef, undef, undef, undef, undef, undef, undef, undef, undef, undef, undef, undef], defers := [] }) ?rest ?reg
  case reg =>
    refine wp_region_noPanic ?_
    refine wp_region_held_drew (S := fun w' => w'.cell? ⟨b, o + 1, none⟩ = some (.int .u8 k) ∧ BIn w' (some ⟨b, o, none⟩) 64 xs) (by kernel_rfl) ⟨x1, X1.out.drew⟩ (fun hHeld => ?_)
    refine wpAnyH_take (i := 0) (v := ?v0) (by simp; rfl) (by kernel_rfl) (by kernel_rfl) (by kernel_rfl) (fun _ _ _ h => h) (Or.inl ⟨by rfl, ?y0⟩) hHeld ?r0
    case y0 => intro w hSw; obtain ⟨z1, -⟩ := hSw; go_simp; with_reducible rfl
    simp only [Act.put, List.setIfInBounds_toArray, List.set_cons_zero, List.set_cons_succ]
    refine wpAnyH_take (i := 1) (v := ?v1) (by simp; rfl) (by kernel_rfl) (by kernel_rfl) (by kernel_rfl) (fun _ _ _ h => h) (Or.inl ⟨by rfl, ?y1⟩) hHeld ?r1
    case y1 => intro w hSw; obtain ⟨z1, -⟩ := hSw; go_simp; with_reducible rfl
    simp only [Act.put, List.setIfInBounds_toArray, List.set_cons_zero, List.set_cons_succ]
    refine wpAnyH_take (i := 2) (v := ?v2) (by simp; rfl) (by kernel_rfl) (by kernel_rfl) (by kernel_rfl) (fun _ _ _ h => h) (Or.inl ⟨by rfl, ?y2⟩) hHeld ?r2
    case y2 => intro w hSw; obtain ⟨z1, -⟩ := hSw; go_simp; with_reducible rfl
    simp only [Act.put, List.setIfInBounds_toArray, List.set_cons_zero, List.set_cons_succ]
    refine wpAnyH_take (i := 3) (v := ?v3) (by simp; rfl) (by kernel_rfl) (by kernel_rfl) (by kernel_rfl) (fun _ _ _ h => h) (Or.inl ⟨by rfl, ?y3⟩) hHeld ?r3
    case y3 => intro w hSw; obtain ⟨z1, -⟩ := hSw; go_simp; with_reducible rfl
    simp only [Act.put, List.setIfInBounds_toArray, List.set_cons_zero, List.set_cons_succ]
    refine wpAnyH_take (i := 4) (v := ?v4) (by simp; rfl) (by kernel_rfl) (by kernel_rfl) (by kernel_rfl) (fun _ _ _ h => h) (Or.inl ⟨by rfl, ?y4⟩) hHeld ?r4
    case y4 => intro w hSw; obtain ⟨z1, -⟩ := hSw; go_simp; with_reducible rfl
    simp only [Act.put, List.setIfInBounds_toArray, List.set_cons_zero, List.set_cons_succ]
    have B1d : Hid (Below w1.heap.size w1 w1.drew) := ⟨rfl, rfl, rfl, Nat.le_refl _, fun _ _ => rfl⟩
    have szd : w1.heap.size ≤ w1.drew.heap.size := Nat.le_refl _
    have S1d : Hid (w1.drew.cell? ⟨b, o + 1, none⟩ = some (.int .u8 k) ∧ BIn w1.drew (some ⟨b, o, none⟩) 64 xs) := hHeld
    generalize w1.drew = wd at *
    have SAL : Hid ((wd.alloc (.cells (rcells rec0).toArray 87)).cell? ⟨b, o + 1, none⟩ = some (.int .u8 k) ∧ BIn (wd.alloc (.cells (rcells rec0).toArray 87)) (some ⟨b, o, none⟩) 64 xs) := ⟨((below_alloc wd _).cell (p := ⟨b, o + 1, none⟩) (World.block_lt_of_cell? wd _ S1d.out.1)).trans S1d.out.1, S1d.out.2.later (below_alloc wd _)⟩
    have SST : Hid ((wd.alloc (.cells (rcells ⟨k, u, 0, zs 32, 0⟩).toArray 87)).cell? ⟨b, o + 1, none⟩ = some (.int .u8 k) ∧ BIn (wd.alloc (.cells (rcells ⟨k, u, 0, zs 32, 0⟩).toArray 87)) (some ⟨b, o, none⟩) 64 xs) := ⟨((below_alloc wd _).cell (p := ⟨b, o + 1, none⟩) (World.block_lt_of_cell? wd _ S1d.out.1)).trans S1d.out.1, S1d.out.2.later (below_alloc wd _)⟩
    refine wpAnyH_ready (rs := [5, 7]) (by kernel_rfl) (by simp) ?_
    refine AllReadyH.cons (by simp; rfl) (fun Kc hKc => ?_) (AllReadyH.cons (by simp; rfl) (fun Kc hKc => ?_) AllReadyH.nil)
    · go_simp
      refine (NUM8.out wd S1d.out.2).mono ?_
      rintro e w' ⟨rfl, rfl⟩
      refine hKc.out _ _ S1d.out (fun hHeld => ?_)
      clear hKc Kc
      refine wpAnyH_take (i := 6) (v := _) (by simp; rfl) (by kernel_rfl) (by kernel_rfl) (by kernel_rfl) (fun _ _ _ h => h) (yields_build_is (vs := [(0, .int .i64 k), (1, .int .u64 u)]) (by rfl) 87 rfl (by rfl) BK.out) hHeld ?_
      simp only [Act.put, List.setIfInBounds_toArray, List.set_cons_zero, List.set_cons_succ]
      refine wpAnyH_ready (rs := [7]) (by kernel_rfl) (by simp) ?_
      refine AllReadyH.cons (by simp; rfl) (fun Kc hKc => ?_) AllReadyH.nil
      rw [if_pos (by rfl)]
      refine wp_alloc_is 87 rfl (alloc37 wd) ?_
      simp only [Act.put, List.setIfInBounds_toArray, List.set_cons_zero, List.set_cons_succ]
      refine hKc.out _ _ SAL.out (fun hHeld => ?_)
      clear hKc Kc
      refine wpAnyH_ready (rs := [8]) (by kernel_rfl) (by simp) ?_
      refine AllReadyH.cons (by simp; rfl) (fun Kc hKc => ?_) AllReadyH.nil
      rw [if_pos (by rfl)]
      refine wp_store_is 87 rfl rfl rfl (store_new size37 wd ⟨k, u, 0, zs 32, 0⟩ (zs_len 32)) ?_
      simp only [Act.put]
      refine hKc.out _ _ SST.out (fun hHeld => ?_)
      clear hKc Kc
      refine wpAnyH_done (by kernel_rfl) (NoPanic.normal ?_) _
      exact ⟨wd.heap.size, rfl, ⟨RAt.new 87 wd _, szd, below_then B1d.out (below_alloc wd _)⟩, rfl⟩
    · rw [if_pos (by rfl)]
      refine wp_alloc_is 87 rfl (alloc37 wd) ?_
      simp only [Act.put, List.setIfInBounds_toArray, List.set_cons_zero, List.set_cons_succ]
      refine hKc.out _ _ SAL.out (fun hHeld => ?_)
      clear hKc Kc
      refine wpAnyH_ready (rs := [5]) (by kernel_rfl) (by simp) ?_
      refine AllReadyH.cons (by simp; rfl) (fun Kc hKc => ?_) AllReadyH.nil
      go_simp
      refine (NUM8.out _ SAL.out.2).mono ?_
      rintro e w' ⟨rfl, rfl⟩
      refine hKc.out _ _ SAL.out (fun hHeld => ?_)
      clear hKc Kc
      refine wpAnyH_take (i := 6) (v := _) (by simp; rfl) (by kernel_rfl) (by kernel_rfl) (by kernel_rfl) (fun _ _ _ h => h) (yields_build_is (vs := [(0, .int .i64 k), (1, .int .u64 u)]) (by rfl) 87 rfl (by rfl) BK.out) hHeld ?_
      simp only [Act.put, List.setIfInBounds_toArray, List.set_cons_zero, List.set_cons_succ]
      refine wpAnyH_ready (rs := [8]) (by kernel_rfl) (by simp) ?_
      refine AllReadyH.cons (by simp; rfl) (fun Kc hKc => ?_) AllReadyH.nil
      rw [if_pos (by rfl)]
      refine wp_store_is 87 rfl rfl rfl (store_new size37 wd ⟨k, u, 0, zs 32, 0⟩ (zs_len 32)) ?_
      simp only [Act.put]
      refine hKc.out _ _ SST.out (fun hHeld => ?_)
      clear hKc Kc
      refine wpAnyH_done (by kernel_rfl) (NoPanic.normal ?_) _
      exact ⟨wd.heap.size, rfl, ⟨RAt.new 87 wd _, szd, below_then B1d.out (below_alloc wd _)⟩, rfl⟩
  case rest =>
    rintro e a w2 ⟨g4, rfl, HF, rfl⟩
    have R2 : Hid (RAt 87 w2 g4 ⟨k, u, 0, zs 32, 0⟩) := HF.out.1
    have G2 : Hid (w1.heap.size ≤ g4 ∧ w.heap.size < w1.heap.size) := ⟨HF.out.2.1, R1.out.lt⟩
    have B2 : Hid (Below w1.heap.size w1 w2) := HF.out.2.2
    have X2 : Hid (BIn w2 (some ⟨b, o, none⟩) 64 xs) := X1.out.later HF.out.2.2
    clear HF x1 BK NUM8
    go_wp2_with fail
    refine (NUM4.out w2 X2.out).mono ?_
    rintro e w3 ⟨rfl, rfl⟩
    have mw : IntKind.i64.wrap m = m := by rw [IntKind.wrap_i64]; omega
    have c0 := R2.out.c0
    have c2 := R2.out.c2
    have c35 := R2.out.c35 (zs_len 32)
    have f2 := frozen_of_row w2 g4 2 _ 87 R2.out
    have f35 := frozen_of_row w2 g4 35 _ 87 R2.out
    by_cases hk : k = 1
    · subst hk
      have R3 : Hid (RAt 87 (w2.setCell ⟨g4, 2, none⟩ (.int .i64 m)) g4 ⟨1, u, m, zs 32, 0⟩) := R2.out.setb m
      have B3 : Hid (Below w1.heap.size w1 (w2.setCell ⟨g4, 2, none⟩ (.int .i64 m))) := B2.out.setCell G2.out.1 _
      have HE : Hid (readS xs = ⟨1, u, m, V, 0⟩) := by show _ = _; rw [HRS.out, if_pos rfl, if_pos rfl]
      go_wp2_with fail
      clear mw c0 c2 c35 f2 f35 NUM4 kw R2 B2
      generalize w2.setCell ⟨g4, 2, none⟩ (.int .i64 m) = w3 at *
      go_loopw [6] (fun i wr => ∃ j : Nat, j ≤ 32 ∧ i = .int .i64 j ∧ Hid (RAt 87 wr g4 ⟨1, u, m, filled V j, 0⟩ ∧ Below w1.heap.size w1 wr)) (fun i _ => 32 - (intOf i).toNat)
      case atStart => exact ⟨0, by omega, rfl, by have := R3.out; rw [filled_zero, HVL.out]; exact this, B3.out⟩
      case round =>
        obtain ⟨j, hj, rfl, HR⟩ := hrel
        clear R3 B3
        by_cases hlt : j < 32
        · have hjv : j < V.length := by rw [HVL.out]; exact hlt
          have hfl : (filled V j).length = 32 := (filled_length V j (by omega)).trans HVL.out
          have xc := (X1.out.later HR.out.2).cell (16 + j) (by omega)
          rw [HXG.out j hlt, show V.getD j 0 = V[j] by simp [List.getD, List.getElem?_eq_getElem hjv]] at xc
          have hcell : wr.cell? ⟨g4, 3 + j, none⟩ = some (.int .u8 (filled V j)[j]) := (HR.out.1.cell (3 + j)).trans (rcells_val ⟨1, u, m, filled V j, 0⟩ j (by show j < (filled V j).length; omega))
          have hfz := frozen_of_row wr g4 (3 + j) _ 87 HR.out.1
          have HQ : Hid (RAt 87 (wr.setCell ⟨g4, 3 + j, none⟩ (.int .u8 V[j])) g4 ⟨1, u, m, filled V (j + 1), 0⟩ ∧ Below w1.heap.size w1 (wr.setCell ⟨g4, 3 + j, none⟩ (.int .u8 V[j]))) := by
            refine ⟨?_, HR.out.2.setCell G2.out.1 _⟩
            have := HR.out.1.setv j V[j] (by show j < (filled V j).length; omega)
            rw [filled_step V j hjv] at this
            exact this
          clear HR
          generalize V[j] = x at *
          generalize (filled V j)[j] = x0 at *
          clear hjv hfl
          have i1 : (16 : Int) + (j : Int) < 64 := by omega
          have i0 : (0 : Int) ≤ (16 : Int) + (j : Int) := by omega
          go_wp2_with fail
          go_roundw
          case rel => exact ⟨j + 1, by omega, by go_num, HQ.out⟩
          case measure => simp [intOf]; omega
        · obtain ⟨w4, hw4⟩ : ∃ w4, w4 = wr := ⟨_, rfl⟩
          subst hw4
          have R4 : Hid (RAt 87 w4 g4 (readS xs)) := by
            have := HR.out.1
            rw [filled_all V j (by rw [HVL.out]; omega)] at this
            rw [HE.out]
            exact this
          have B4 : Hid (Below w1.heap.size w1 w4) := HR.out.2
          have Z4 : Hid (RAt 87 w4 w.heap.size rec0) := R1.out.later B4.out
          have X4 : Hid (BIn w4 (some ⟨b, o, none⟩) 64 xs) := X1.out.later B4.out
          clear HR HE
          have L4 : Hid (_) := R4.out.load37 HW.out.len
          obtain ⟨r, hr⟩ : ∃ r, r = readS xs := ⟨_, rfl⟩
          have HRR : Hid (r = readS xs) := hr
          rw [← hr] at HW R4 L4
          clear hr HRS
          go_wp2_with ((with_reducible refine at_seq ?_); (refine wpList_load_is (by rfl) 87 rfl rfl L4.out ?_); simp only [Act.put, List.setIfInBounds_toArray, List.set_cons_zero, List.set_cons_succ])
          refine (refEncode_any r HW.out w4).mono ?_
          rintro e w5 ⟨p5, n5, c5, rfl, -, m5⟩
          have R5 : Hid (RAt 87 w5 g4 r) := R4.out.later m5.below
          have Z5 : Hid (RAt 87 w5 w.heap.size rec0) := Z4.out.later m5.below
          have B5 : Hid (Below w.heap.size w w5) := below_then B1.out (below_then B4.out m5.below)
          have q2 := (X4.out.later m5.below).str c
          have q1 := m5.read.str c5
          have HB5 : Hid (Bytes (encT r)) := m5.read.byte
          have L5 : Hid (_) := R5.out.load37 HW.out.len
          have ST : Hid (_) := Z5.out.store (s := r) size37 rec0_len HW.out.len
          have SZ : Hid (_) := Z5.out.store (s := rec0) size37 rec0_len rec0_len
          have BZ : Hid (_) := build37 w5 #[] rec0 fill_none
          have F1 : Hid (RAt 87 (w5.setRow w.heap.size (rcells r).toArray) w.heap.size r ∧ Below w.heap.size w (w5.setRow w.heap.size (rcells r).toArray)) := ⟨Z5.out.stored _, below_setRow B5.out (Nat.le_refl _) _⟩
          have F0 : Hid (RAt 87 (w5.setRow w.heap.size (rcells rec0).toArray) w.heap.size rec0 ∧ Below w.heap.size w (w5.setRow w.heap.size (rcells rec0).toArray)) := ⟨Z5.out.stored _, below_setRow B5.out (Nat.le_refl _) _⟩
          have HSE : Hid (_) := str_eq (encT r) xs HB5.out HB.out
          clear m5 R4 Z4 X4 B4 L4
          by_cases hm : may r = true
          · rw [chk_yes r hm]
            by_cases he : encS r = xs
            · have hq : ((strOfNums (encT r)).toList == (strOfNums xs).toList) = true := by rw [HSE.out, encT_yes r hm, he]; simp
              have hq2 : ((strOfNums (encT r)).toList != (strOfNums xs).toList) = false := by rw [bne, hq]; rfl
              have HD : Hid (decS xs = (r, 0)) := by
                show _ = _
                rw [decS_ok xs HL.out (by unfold goodB; rw [← HRR.out, hm, he]; simp), HRR.out]
              clear he hm
              go_wp2_with ((with_reducible refine at_seq ?_); (first | (refine wpList_store_is (by rfl) 87 rfl rfl rfl ST.out ?_) | (refine wpList_load_is (by rfl) 87 rfl rfl L5.out ?_)); simp only [Act.put, List.setIfInBounds_toArray, List.set_cons_zero, List.set_cons_succ])
              rw [HD.out]
              exact bodyPost_ret (results_rec Tryz.results57 _ _ w.heap.size 87 _ _ (by rfl) F1.out.1 HW.out.len Tryz.underlying87 rfl size37) rfl ⟨rfl, F1.out.2⟩
            · have hq : ((strOfNums (encT r)).toList == (strOfNums xs).toList) = false := by rw [HSE.out, encT_yes r hm]; simp [he]
              have hq2 : ((strOfNums (encT r)).toList != (strOfNums xs).toList) = true := by rw [bne, hq]; rfl
              have HD : Hid (decS xs = (rec0, 60)) := decS_bad xs HL.out (by unfold goodB; rw [← HRR.out, hm]; simp [he])
              clear he hm
              go_wp2_with ((with_reducible refine at_seq ?_); (first | (refine wpList_store_is (by rfl) 87 rfl rfl rfl SZ.out ?_) | (refine wpList_build_is (vs := []) (by rfl) 87 rfl (by rfl) BZ.out ?_)); simp only [Act.put, List.setIfInBounds_toArray, List.set_cons_zero, List.set_cons_succ])
              rw [HD.out]
              exact bodyPost_ret (results_rec Tryz.results57 _ _ w.heap.size 87 _ _ (by rfl) F0.out.1 rec0_len Tryz.underlying87 rfl size37) rfl ⟨rfl, F0.out.2⟩
          · rw [chk_no r hm]
            have HD : Hid (decS xs = (rec0, 60)) := decS_bad xs HL.out (by unfold goodB; rw [← HRR.out]; simp [hm])
            clear hm
            go_wp2_with ((with_reducible refine at_seq ?_); (first | (refine wpList_store_is (by rfl) 87 rfl rfl rfl SZ.out ?_) | (refine wpList_build_is (vs := []) (by rfl) 87 rfl (by rfl) BZ.out ?_)); simp only [Act.put, List.setIfInBounds_toArray, List.set_cons_zero, List.set_cons_succ])
            rw [HD.out]
            exact bodyPost_ret (results_rec Tryz.results57 _ _ w.heap.size 87 _ _ (by rfl) F0.out.1 rec0_len Tryz.underlying87 rfl size37) rfl ⟨rfl, F0.out.2⟩
    · have R3 : Hid (RAt 87 (w2.setCell ⟨g4, 35, none⟩ (.int .i64 m)) g4 ⟨k, u, 0, zs 32, m⟩) := R2.out.seti (zs_len 32) m
      have B3 : Hid (Below w1.heap.size w1 (w2.setCell ⟨g4, 35, none⟩ (.int .i64 m))) := B2.out.setCell G2.out.1 _
      have HE : Hid (readS xs = ⟨k, u, 0, V, m⟩) := by show _ = _; rw [HRS.out, if_neg hk, if_neg hk]
      go_wp2_with fail
      clear mw c0 c2 c35 f2 f35 NUM4 kw R2 B2
      generalize w2.setCell ⟨g4, 35, none⟩ (.int .i64 m) = w3 at *
      go_loopw [6] (fun i wr => ∃ j : Nat, j ≤ 32 ∧ i = .int .i64 j ∧ Hid (RAt 87 wr g4 ⟨k, u, 0, filled V j, m⟩ ∧ Below w1.heap.size w1 wr)) (fun i _ => 32 - (intOf i).toNat)
      case atStart => exact ⟨0, by omega, rfl, by have := R3.out; rw [filled_zero, HVL.out]; exact this, B3.out⟩
      case round =>
        obtain ⟨j, hj, rfl, HR⟩ := hrel
        clear R3 B3
        by_cases hlt : j < 32
        · have hjv : j < V.length := by rw [HVL.out]; exact hlt
          have hfl : (filled V j).length = 32 := (filled_length V j (by omega)).trans HVL.out
          have xc := (X1.out.later HR.out.2).cell (16 + j) (by omega)
          rw [HXG.out j hlt, show V.getD j 0 = V[j] by simp [List.getD, List.getElem?_eq_getElem hjv]] at xc
          have hcell : wr.cell? ⟨g4, 3 + j, none⟩ = some (.int .u8 (filled V j)[j]) := (HR.out.1.cell (3 + j)).trans (rcells_val ⟨k, u, 0, filled V j, m⟩ j (by show j < (filled V j).length; omega))
          have hfz := frozen_of_row wr g4 (3 + j) _ 87 HR.out.1
          have HQ : Hid (RAt 87 (wr.setCell ⟨g4, 3 + j, none⟩ (.int .u8 V[j])) g4 ⟨k, u, 0, filled V (j + 1), m⟩ ∧ Below w1.heap.size w1 (wr.setCell ⟨g4, 3 + j, none⟩ (.int .u8 V[j]))) := by
            refine ⟨?_, HR.out.2.setCell G2.out.1 _⟩
            have := HR.out.1.setv j V[j] (by show j < (filled V j).length; omega)
            rw [filled_step V j hjv] at this
            exact this
          clear HR
          generalize V[j] = x at *
          generalize (filled V j)[j] = x0 at *
          clear hjv hfl
          have i1 : (16 : Int) + (j : Int) < 64 := by omega
          have i0 : (0 : Int) ≤ (16 : Int) + (j : Int) := by omega
          go_wp2_with fail
          go_roundw
          case rel => exact ⟨j + 1, by omega, by go_num, HQ.out⟩
          case measure => simp [intOf]; omega
        · obtain ⟨w4, hw4⟩ : ∃ w4, w4 = wr := ⟨_, rfl⟩
          subst hw4
          have R4 : Hid (RAt 87 w4 g4 (readS xs)) := by
            have := HR.out.1
            rw [filled_all V j (by rw [HVL.out]; omega)] at this
            rw [HE.out]
            exact this
          have B4 : Hid (Below w1.heap.size w1 w4) := HR.out.2
          have Z4 : Hid (RAt 87 w4 w.heap.size rec0) := R1.out.later B4.out
          have X4 : Hid (BIn w4 (some ⟨b, o, none⟩) 64 xs) := X1.out.later B4.out
          clear HR HE
          have L4 : Hid (_) := R4.out.load37 HW.out.len
          obtain ⟨r, hr⟩ : ∃ r, r = readS xs := ⟨_, rfl⟩
          have HRR : Hid (r = readS xs) := hr
          rw [← hr] at HW R4 L4
          clear hr HRS
          go_wp2_with ((with_reducible refine at_seq ?_); (refine wpList_load_is (by rfl) 87 rfl rfl L4.out ?_); simp only [Act.put, List.setIfInBounds_toArray, List.set_cons_zero, List.set_cons_succ])
          refine (refEncode_any r HW.out w4).mono ?_
          rintro e w5 ⟨p5, n5, c5, rfl, -, m5⟩
          have R5 : Hid (RAt 87 w5 g4 r) := R4.out.later m5.below
          have Z5 : Hid (RAt 87 w5 w.heap.size rec0) := Z4.out.later m5.below
          have B5 : Hid (Below w.heap.size w w5) := below_then B1.out (below_then B4.out m5.below)
          have q2 := (X4.out.later m5.below).str c
          have q1 := m5.read.str c5
          have HB5 : Hid (Bytes (encT r)) := m5.read.byte
          have L5 : Hid (_) := R5.out.load37 HW.out.len
          have ST : Hid (_) := Z5.out.store (s := r) size37 rec0_len HW.out.len
          have SZ : Hid (_) := Z5.out.store (s := rec0) size37 rec0_len rec0_len
          have BZ : Hid (_) := build37 w5 #[] rec0 fill_none
          have F1 : Hid (RAt 87 (w5.setRow w.heap.size (rcells r).toArray) w.heap.size r ∧ Below w.heap.size w (w5.setRow w.heap.size (rcells r).toArray)) := ⟨Z5.out.stored _, below_setRow B5.out (Nat.le_refl _) _⟩
          have F0 : Hid (RAt 87 (w5.setRow w.heap.size (rcells rec0).toArray) w.heap.size rec0 ∧ Below w.heap.size w (w5.setRow w.heap.size (rcells rec0).toArray)) := ⟨Z5.out.stored _, below_setRow B5.out (Nat.le_refl _) _⟩
          have HSE : Hid (_) := str_eq (encT r) xs HB5.out HB.out
          clear m5 R4 Z4 X4 B4 L4
          by_cases hm : may r = true
          · rw [chk_yes r hm]
            by_cases he : encS r = xs
            · have hq : ((strOfNums (encT r)).toList == (strOfNums xs).toList) = true := by rw [HSE.out, encT_yes r hm, he]; simp
              have hq2 : ((strOfNums (encT r)).toList != (strOfNums xs).toList) = false := by rw [bne, hq]; rfl
              have HD : Hid (decS xs = (r, 0)) := by
                show _ = _
                rw [decS_ok xs HL.out (by unfold goodB; rw [← HRR.out, hm, he]; simp), HRR.out]
              clear he hm
              go_wp2_with ((with_reducible refine at_seq ?_); (first | (refine wpList_store_is (by rfl) 87 rfl rfl rfl ST.out ?_) | (refine wpList_load_is (by rfl) 87 rfl rfl L5.out ?_)); simp only [Act.put, List.setIfInBounds_toArray, List.set_cons_zero, List.set_cons_succ])
              rw [HD.out]
              exact bodyPost_ret (results_rec Tryz.results57 _ _ w.heap.size 87 _ _ (by rfl) F1.out.1 HW.out.len Tryz.underlying87 rfl size37) rfl ⟨rfl, F1.out.2⟩
            · have hq : ((strOfNums (encT r)).toList == (strOfNums xs).toList) = false := by rw [HSE.out, encT_yes r hm]; simp [he]
              have hq2 : ((strOfNums (encT r)).toList != (strOfNums xs).toList) = true := by rw [bne, hq]; rfl
              have HD : Hid (decS xs = (rec0, 60)) := decS_bad xs HL.out (by unfold goodB; rw [← HRR.out, hm]; simp [he])
              clear he hm
              go_wp2_with ((with_reducible refine at_seq ?_); (first | (refine wpList_store_is (by rfl) 87 rfl rfl rfl SZ.out ?_) | (refine wpList_build_is (vs := []) (by rfl) 87 rfl (by rfl) BZ.out ?_)); simp only [Act.put, List.setIfInBounds_toArray, List.set_cons_zero, List.set_cons_succ])
              rw [HD.out]
              exact bodyPost_ret (results_rec Tryz.results57 _ _ w.heap.size 87 _ _ (by rfl) F0.out.1 rec0_len Tryz.underlying87 rfl size37) rfl ⟨rfl, F0.out.2⟩
          · rw [chk_no r hm]
            have HD : Hid (decS xs = (rec0, 60)) := decS_bad xs HL.out (by unfold goodB; rw [← HRR.out]; simp [hm])
            clear hm
            go_wp2_with ((with_reducible refine at_seq ?_); (first | (refine wpList_store_is (by rfl) 87 rfl rfl rfl SZ.out ?_) | (refine wpList_build_is (vs := []) (by rfl) 87 rfl (by rfl) BZ.out ?_)); simp only [Act.put, List.setIfInBounds_toArray, List.set_cons_zero, List.set_cons_succ])
            rw [HD.out]
            exact bodyPost_ret (results_rec Tryz.results57 _ _ w.heap.size 87 _ _ (by rfl) F0.out.1 rec0_len Tryz.underlying87 rfl size37) rfl ⟨rfl, F0.out.2⟩
/-- the document's Decode, of whatever bytes: its answers -/
theorem refDecode_any (p : Option Addr) (n c : Nat) (xs : List Int) (w : World) (hx : BIn w p n xs) :
    Calls Tryz.prog 57 #[.slice p n c] w fun e w' => e = .returned (.tuple #[.agg (rcells (decS xs).1).toArray, .int .i64 (decS xs).2]) ∧ Below w.heap.size w w' := by
  by_cases h : n = 64
  · subst h
    exact refDecode_64 p c xs w hx
  · rw [decS_len xs (by rw [hx.len]; exact h)]
    exact refDecode_len p n c w h
end Go.Proofs.YtmcpjokbkkfgfaaGreatDoor.R
