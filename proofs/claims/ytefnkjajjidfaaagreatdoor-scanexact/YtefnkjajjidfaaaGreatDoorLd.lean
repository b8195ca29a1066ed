/-
  Layer 7, the program's functions: bytes.Equal, read, Decode.
-/
import Derived.Test.YtefnkjajjidfaaaGreatDoorLc
import Derived.Test.YtefnkjajjidfaaaGreatDoorCc
import Derived.Test.YtefnkjajjidfaaaGreatDoorCf
namespace Go.Proofs.YtefnkjajjidfaaaGreatDoor
open Go.RowKit
set_option maxHeartbeats 400000 in
set_option maxRecDepth 100000 in
theorem equal_any (p q : Option Addr) (n c m d : Nat) (xs ys : List Int) (w : World) (hx : BIn w p n xs) (hy : BIn w q m ys) :
    Calls Tryz.prog 67 #[.slice p n c, .slice q m d] w fun e w' => e = .returned (.bool (decide (xs = ys))) ∧ w = w' := by
  have q1 := hx.str c
  have q2 := hy.str d
  have HE : Hid (_) := str_eq xs ys hx.byte hy.byte
  clear hx hy
  go_enter Tryz.func67, Tryz.ntmps67
  go_wp2
  go_ret
  refine ⟨?_, rfl⟩
  rw [← HE.out]
  rfl
/-- the table of fields, as one value -/
def fcells : List Value := [.int .i64 6, .int .i64 1, .int .i64 8, .int .i64 1, .int .i64 9, .int .i64 1, .int .i64 10, .int .i64 1, .int .i64 11, .int .i64 1, .int .i64 12, .int .i64 1, .int .i64 16, .int .i64 8, .int .i64 24, .int .i64 8]
theorem size63 : (Tryz.prog.info? 140).map (·.size) = some 16 := by kernel_rfl
theorem size62 : (Tryz.prog.info? 139).map (·.size) = some 2 := by kernel_rfl
theorem fcells_at (j : Nat) (hj : j < 8) : fcells[2 * j]? = some (.int .i64 ((fa.getD j 0 : Nat) : Int)) ∧ fcells[2 * j + 1]? = some (.int .i64 ((fw.getD j 0 : Nat) : Int)) := by
  have : j = 0 ∨ j = 1 ∨ j = 2 ∨ j = 3 ∨ j = 4 ∨ j = 5 ∨ j = 6 ∨ j = 7 := by omega
  rcases this with rfl | rfl | rfl | rfl | rfl | rfl | rfl | rfl <;> exact ⟨rfl, rfl⟩
theorem Flds.range {w : World} (h : Flds w) : w.rangeAt 0 0 fcells := fun j v hv => by
  have hj : j < 16 := (List.getElem?_eq_some_iff.1 hv).1
  rw [Nat.zero_add]
  rcases Nat.mod_two_eq_zero_or_one j with he | he
  · obtain ⟨k, rfl⟩ : ∃ k, j = 2 * k := ⟨j / 2, by omega⟩
    rw [(h k (by omega)).1, ← hv]
    exact (fcells_at k (by omega)).1.symm
  · obtain ⟨k, rfl⟩ : ∃ k, j = 2 * k + 1 := ⟨j / 2, by omega⟩
    rw [(h k (by omega)).2, ← hv]
    exact (fcells_at k (by omega)).2.symm
theorem load63 {w : World} (h : Flds w) : (Instr.loadAt 140 (.pointer (some ⟨0, 0, none⟩))).run Tryz.prog w = .ok (.agg fcells.toArray) w :=
  run_loadAt_mid w 0 0 140 fcells _ h.range Tryz.underlying140 rfl size63
theorem sizeOf62 (w : World) : (sizeOf 139).run Tryz.prog w = .ok 2 w := by
  cases hi : Tryz.prog.info? 139 with
  | none => have := size62; simp [hi] at this
  | some i =>
    have h := size62
    simp only [hi, Option.map_some, Option.some.injEq] at h
    simp [sizeOf, typeInfo, hi, h]
def fpair (a k : Nat) : List Value := [.int .i64 (a : Int), .int .i64 (k : Int)]
theorem fpair_at (j : Nat) (hj : j < 8) : fcells.toArray.extract (j * 2) (j * 2 + 2) = (fpair (fa.getD j 0) (fw.getD j 0)).toArray := by
  have : j = 0 ∨ j = 1 ∨ j = 2 ∨ j = 3 ∨ j = 4 ∨ j = 5 ∨ j = 6 ∨ j = 7 := by omega
  rcases this with rfl | rfl | rfl | rfl | rfl | rfl | rfl | rfl <;> rfl
theorem index63 (w : World) (j : Nat) (hj : j < 8) : (Instr.index 140 (.agg fcells.toArray) (.int .i64 (j : Int))).run Tryz.prog w = .ok (.agg (fpair (fa.getD j 0) (fw.getD j 0)).toArray) w := by
  have h1 : (0 : Int) ≤ j ∧ (j : Int) < ((8 : Nat) : Int) := by omega
  have hagg : (isAgg 139).run Tryz.prog w = .ok true w := by
    unfold isAgg
    rw [Sem.run_bind, run_underlying Tryz.underlying139 w]
    rfl
  unfold Instr.index
  simp only [Sem.run_bind, asIntOf, Sem.run_pure, Result.andThen_ok, run_underlying Tryz.underlying140]
  rw [if_pos h1]
  simp only [Sem.run_bind, sizeOf62, Result.andThen_ok, Int.toNat_natCast, part, hagg, if_true, Sem.run_pure]
  rw [fpair_at j hj]
theorem zero62 : (Tryz.prog.info? 139).bind (·.zero) = some (.agg (fpair 0 0).toArray) := by kernel_rfl
theorem alloc62 (w : World) : (Instr.alloc 139 true (.tuple #[])).run Tryz.prog w = .ok (.pointer (some ⟨w.heap.size, 0, none⟩)) (w.alloc (.cells (fpair 0 0).toArray 139)) := by
  simp only [Instr.alloc, Sem.run_bind, zv 139 _ zero62, Result.andThen_ok]
  simp [newVar, newRow, Value.cells]
theorem fpair_all (a k : Nat) : (fpair a k).toArray.all (·.oneCell') = true := by
  apply all_oneCell_toArray
  intro v hv
  simp only [fpair, List.mem_cons, List.not_mem_nil, or_false] at hv
  rcases hv with rfl | rfl <;> rfl
theorem store_new62 (w : World) (a k : Nat) : (Instr.storeAt 139 (.pointer (some ⟨w.heap.size, 0, none⟩)) (.agg (fpair a k).toArray)).run Tryz.prog (w.alloc (.cells (fpair 0 0).toArray 139)) = .ok () (w.alloc (.cells (fpair a k).toArray 139)) := by
  rw [(LAt.new 139 w (fpair 0 0)).store (ds := fpair a k) size62 rfl (fpair_all a k), setRow_alloc]
/-- what is read, number by number -/
def rds (xs : List Int) : List Int := [rd xs 0, rd xs 1, rd xs 2, rd xs 3, rd xs 4, rd xs 5, rd xs 6, rd xs 7]
theorem rds_at (xs : List Int) (j : Nat) (hj : j < (rds xs).length) : (rds xs)[j] = rd xs j := by
  have hj' : j < 8 := hj
  have : j = 0 ∨ j = 1 ∨ j = 2 ∨ j = 3 ∨ j = 4 ∨ j = 5 ∨ j = 6 ∨ j = 7 := by omega
  rcases this with rfl | rfl | rfl | rfl | rfl | rfl | rfl | rfl <;> rfl
theorem take_worth (xs : List Int) (k : Nat) (h1 : 1 ≤ k) (h2 : k ≤ 8) (h3 : k ≤ xs.length) : (takeS xs (k : Int)).1 = worth (xs.take k) ∧ (takeS xs (k : Int)).2.2 = 0 := by
  unfold takeS
  rw [if_neg (by omega), if_neg (by omega), Int.toNat_natCast]
  exact ⟨rfl, rfl⟩
set_option maxHeartbeats 4000000 in
set_option maxRecDepth 100000 in
theorem read_any (b o c : Nat) (xs : List Int) (w : World) (hx : BIn w (some ⟨b, o, none⟩) 64 xs) (hc : 64 ≤ c) (ht : Tab w) :
    Calls Tryz.prog 66 #[.slice (some ⟨b, o, none⟩) 64 c] w fun e w' => e = .returned (.agg (scells (readS xs)).toArray) ∧ Below w.heap.size w w' := by
  have HX : Hid (BIn w (some ⟨b, o, none⟩) 64 xs) := hx
  have HT : Hid (Tab w) := ht
  have A0 : Hid (_) := alloc29 w
  obtain ⟨w0, hw0⟩ : ∃ x, x = w.alloc (.cells (scells sup0).toArray 81) := ⟨_, rfl⟩
  have hs0 : w0.heap.size = w.heap.size + 1 := by rw [hw0]; simp
  have B0 : Below w.heap.size w w0 := by rw [hw0]; exact below_alloc w _
  have S0 : SAt 81 w0 w.heap.size sup0 := by rw [hw0]; exact LAt.new 81 w _
  rw [← hw0] at A0
  have A1 : Hid (_) := alloc59 w0
  obtain ⟨w1, hw1⟩ : ∃ x, x = w0.alloc (.cells (List.replicate 8 (Value.int .u64 0)).toArray 136) := ⟨_, rfl⟩
  have B1 : Below w.heap.size w w1 := by rw [hw1]; exact below_then B0 (below_alloc w0 _)
  have S1 : SAt 81 w1 w.heap.size sup0 := by rw [hw1]; exact LAt.later S0 (below_alloc w0 _)
  have N1 : LAt 136 w1 (w.heap.size + 1) (U64 (filled (rds xs) 0)) := by rw [hw1, ← hs0]; exact LAt.new 136 w0 _
  rw [hs0, ← hw1] at A1
  have L1 : Hid (_) := load63 (ht.later B1).flds
  have HI : Hid (LAt 136 w1 (w.heap.size + 1) (U64 (filled (rds xs) 0)) ∧ SAt 81 w1 w.heap.size sup0 ∧ Below w.heap.size w w1) := ⟨N1, S1, B1⟩
  clear hw0 hw1 hs0 B0 S0 B1 S1 N1 hx ht
  go_enter Tryz.func66, Tryz.ntmps66
  go_wp2_with ((with_reducible refine at_ops ?_); (first | (refine wpList_alloc_is (by rfl) 81 rfl A0.out ?_) | (refine wpList_alloc_is (by rfl) 136 rfl A1.out ?_) | (refine wpList_load_is (by rfl) 140 rfl rfl L1.out ?_)); simp only [Act.put, List.setIfInBounds_toArray, List.set_cons_zero, List.set_cons_succ])
  clear A0 A1 L1
  go_loopw [7] (fun i wr => ∃ j : Nat, j ≤ 8 ∧ i = .int .i64 j ∧ Hid (LAt 136 wr (w.heap.size + 1) (U64 (filled (rds xs) j)) ∧ SAt 81 wr w.heap.size sup0 ∧ Below w.heap.size w wr)) (fun i _ => 8 - (intOf i).toNat)
  case atStart => exact ⟨0, Nat.zero_le _, rfl, HI.out⟩
  case round =>
    obtain ⟨j, hj, rfl, HR⟩ := hrel
    clear HI
    by_cases hlt : j < 8
    · have HLJ : Hid (j < (rds xs).length) := hlt
      have HRD : Hid ((rds xs)[j]'HLJ.out = worth ((xs.drop (fa.getD j 0)).take (fw.getD j 0))) := rds_at xs j hlt
      have HK := fld_bd j hlt
      have HIX : Hid (∀ w, (Instr.index 140 (.agg fcells.toArray) (.int .i64 (j : Int))).run Tryz.prog w = .ok (.agg (fpair (fa.getD j 0) (fw.getD j 0)).toArray) w) := fun w => index63 w j hlt
      generalize fa.getD j 0 = a0 at *
      generalize fw.getD j 0 = k0 at *
      obtain ⟨k1, k2, k3⟩ := HK
      have A2 : Hid (_) := alloc62 wr
      have T2 : Hid (_) := store_new62 wr a0 k0
      obtain ⟨w2, hw2⟩ : ∃ x, x = wr.alloc (.cells (fpair a0 k0).toArray 139) := ⟨_, rfl⟩
      have b2 : Below wr.heap.size wr w2 := by rw [hw2]; exact below_alloc wr _
      have P2 : Hid (LAt 139 w2 wr.heap.size (fpair a0 k0)) := by rw [hw2]; exact LAt.new 139 wr _
      have R2 : Hid (LAt 136 w2 (w.heap.size + 1) (U64 (filled (rds xs) j)) ∧ SAt 81 w2 w.heap.size sup0 ∧ Below w.heap.size w w2) := ⟨HR.out.1.later b2, LAt.later HR.out.2.1 b2, below_then HR.out.2.2 b2⟩
      rw [← hw2] at T2
      have HLT : Hid (w.heap.size + 1 < wr.heap.size) := HR.out.1.lt
      clear hw2 b2 HR
      have hI : (a0 : Int) ≤ 64 := by omega
      have hI2 : (a0 : Int) ≤ c := by omega
      have hne : ¬ c = a0 := by omega
      go_wp2_with ((with_reducible refine at_ops ?_); (first | (refine wpList_index_is (by rfl) 140 rfl rfl rfl (HIX.out _) ?_) | (refine wpList_alloc_is (by rfl) 139 rfl A2.out ?_) | (refine wpList_store_is (by rfl) 139 rfl rfl rfl T2.out ?_)); simp only [Act.put, List.setIfInBounds_toArray, List.set_cons_zero, List.set_cons_succ])
      clear A2 T2 HIX
      refine wp_region_noPanic ?_
      refine wp_region_held_drew (S := fun w' => LAt 139 w' wr.heap.size (fpair a0 k0)) (by kernel_rfl) P2.out.drew (fun hHeld => ?_)
      refine wpAnyH_take (i := 0) (v := ?v0) (by simp; rfl) (by kernel_rfl) (by kernel_rfl) (by kernel_rfl) (fun _ _ _ h => h) (Or.inl ⟨by rfl, ?y0⟩) hHeld ?r0
      case y0 => intro w hSw; clear hSw; go_simp; with_reducible rfl
      simp only [Act.put, List.setIfInBounds_toArray, List.set_cons_zero, List.set_cons_succ]
      refine wpAnyH_take (i := 1) (v := ?v1) (by simp; rfl) (by kernel_rfl) (by kernel_rfl) (by kernel_rfl) (fun _ _ _ h => h) (Or.inl ⟨by rfl, ?y1⟩) hHeld ?r1
      case y1 => intro w hSw; clear hSw; go_simp; with_reducible rfl
      simp only [Act.put, List.setIfInBounds_toArray, List.set_cons_zero, List.set_cons_succ]
      refine wpAnyH_take (i := 2) (v := ?v2) (by simp; rfl) (by kernel_rfl) (by kernel_rfl) (by kernel_rfl) (fun _ _ _ h => h) (Or.inl ⟨by rfl, ?y2⟩) hHeld ?r2
      case y2 => intro w hSw; clear hSw; go_simp; with_reducible rfl
      simp only [Act.put, List.setIfInBounds_toArray, List.set_cons_zero, List.set_cons_succ]
      refine wpAnyH_take (i := 3) (v := ?v3) (by simp; rfl) (by kernel_rfl) (by kernel_rfl) (by kernel_rfl) (fun _ _ _ h => h) (Or.inl ⟨by rfl, ?y3⟩) hHeld ?r3
      case y3 => intro w hSw; have z := LAt.cell hSw 0; simp only [fpair, List.getElem?_cons_zero] at z; clear hSw; go_simp; with_reducible rfl
      simp only [Act.put, List.setIfInBounds_toArray, List.set_cons_zero, List.set_cons_succ]
      refine wpAnyH_take (i := 4) (v := ?v4) (by simp; rfl) (by kernel_rfl) (by kernel_rfl) (by kernel_rfl) (fun _ _ _ h => h) (Or.inl ⟨by rfl, ?y4⟩) hHeld ?r4
      case y4 => intro w hSw; clear hSw; go_simp; with_reducible rfl
      simp only [Act.put, List.setIfInBounds_toArray, List.set_cons_zero, List.set_cons_succ]
      refine wpAnyH_take (i := 5) (v := ?v5) (by simp; rfl) (by kernel_rfl) (by kernel_rfl) (by kernel_rfl) (fun _ _ _ h => h) (Or.inl ⟨by rfl, ?y5⟩) hHeld ?r5
      case y5 => intro w hSw; clear hSw; go_simp; with_reducible rfl
      simp only [Act.put, List.setIfInBounds_toArray, List.set_cons_zero, List.set_cons_succ]
      refine wpAnyH_take (i := 6) (v := ?v6) (by simp; rfl) (by kernel_rfl) (by kernel_rfl) (by kernel_rfl) (fun _ _ _ h => h) (Or.inl ⟨by rfl, ?y6⟩) hHeld ?r6
      case y6 => intro w hSw; have z := LAt.cell hSw 1; simp only [fpair, List.getElem?_cons_zero, List.getElem?_cons_succ] at z; clear hSw; go_simp; with_reducible rfl
      simp only [Act.put, List.setIfInBounds_toArray, List.set_cons_zero, List.set_cons_succ]
      refine wpAnyH_ready (rs := [7]) (by kernel_rfl) (by simp) ?_
      refine AllReadyH.cons (by simp; rfl) (fun Kc hKc => ?_) AllReadyH.nil
      go_simp
      have hx2 := ((HX.out.later R2.out.2.2).drew).drop a0 (by omega)
      refine (take_any (some ⟨b, o + a0, none⟩) (64 - a0) (c - a0) (xs.drop a0) (k0 : Int) w2.drew hx2 (by omega) (by omega)).mono ?_
      rintro e w3 ⟨v3, rfl, -, b3⟩
      have htk := take_worth (xs.drop a0) k0 k1 k2 (by rw [hx2.len]; omega)
      rw [htk.1, htk.2, ← HRD.out]
      have B3 : Hid (Below w2.heap.size w2 w3) := below_undrew b3
      have R3 : Hid (LAt 136 w3 (w.heap.size + 1) (U64 (filled (rds xs) j)) ∧ SAt 81 w3 w.heap.size sup0 ∧ Below w.heap.size w w3) := ⟨R2.out.1.later B3.out, LAt.later R2.out.2.1 B3.out, below_then R2.out.2.2 B3.out⟩
      have P3 : Hid (LAt 139 w3 wr.heap.size (fpair a0 k0)) := P2.out.later B3.out
      clear b3 hx2 htk
      refine hKc.out _ _ P3.out (fun hHeld => ?_)
      clear hKc Kc
      refine wpAnyH_take (i := 8) (v := ?v8) (by simp; rfl) (by kernel_rfl) (by kernel_rfl) (by kernel_rfl) (fun _ _ _ h => h) (Or.inl ⟨by rfl, ?y8⟩) hHeld ?r8
      case y8 => intro w hSw; clear hSw; go_simp; with_reducible rfl
      simp only [Act.put, List.setIfInBounds_toArray, List.set_cons_zero, List.set_cons_succ]
      refine wpAnyH_take (i := 9) (v := ?v9) (by simp; rfl) (by kernel_rfl) (by kernel_rfl) (by kernel_rfl) (fun _ _ _ h => h) (Or.inl ⟨by rfl, ?y9⟩) hHeld ?r9
      case y9 => intro w hSw; clear hSw; go_simp; with_reducible rfl
      simp only [Act.put, List.setIfInBounds_toArray, List.set_cons_zero, List.set_cons_succ]
      refine wpAnyH_take (i := 10) (v := ?v10) (by simp; rfl) (by kernel_rfl) (by kernel_rfl) (by kernel_rfl) (fun _ _ _ h => h) (Or.inl ⟨by rfl, ?y10⟩) hHeld ?r10
      case y10 => intro w hSw; clear hSw; go_simp; with_reducible rfl
      simp only [Act.put, List.setIfInBounds_toArray, List.set_cons_zero, List.set_cons_succ]
      refine wpAnyH_take (i := 11) (v := ?v11) (by simp; rfl) (by kernel_rfl) (by kernel_rfl) (by kernel_rfl) (fun _ _ _ h => h) (Or.inl ⟨by rfl, ?y11⟩) hHeld ?r11
      case y11 => intro w hSw; clear hSw; go_simp; with_reducible rfl
      simp only [Act.put, List.setIfInBounds_toArray, List.set_cons_zero, List.set_cons_succ]
      refine wpAnyH_take (i := 12) (v := ?v12) (by simp; rfl) (by kernel_rfl) (by kernel_rfl) (by kernel_rfl) (fun _ _ _ h => h) (Or.inl ⟨by rfl, ?y12⟩) hHeld ?r12
      case y12 => intro w hSw; clear hSw; go_simp; with_reducible rfl
      simp only [Act.put, List.setIfInBounds_toArray, List.set_cons_zero, List.set_cons_succ]
      refine wpAnyH_ready (rs := [13]) (by kernel_rfl) (by simp) ?_
      refine AllReadyH.cons (by simp; rfl) (fun Kc hKc => ?_) AllReadyH.nil
      have z : ∃ u, w3.cell? ⟨w.heap.size + 1, j, none⟩ = some u := by
        rw [R3.out.1.cell j]
        exact ⟨_, List.getElem?_eq_getElem (by simp [filled_length (rds xs) j (Nat.le_of_lt HLJ.out)]; exact hlt)⟩
      obtain ⟨u, hu⟩ := z
      have hfz : w3.frozen? ⟨w.heap.size + 1, j, none⟩ = false := by simp [World.frozen?, show w3.heap[w.heap.size + 1]? = _ from R3.out.1]
      have HQ : Hid (LAt 136 (w3.setCell ⟨w.heap.size + 1, j, none⟩ (.int .u64 ((rds xs)[j]'HLJ.out))) (w.heap.size + 1) (U64 (filled (rds xs) (j + 1))) ∧ SAt 81 (w3.setCell ⟨w.heap.size + 1, j, none⟩ (.int .u64 ((rds xs)[j]'HLJ.out))) w.heap.size sup0 ∧ Below w.heap.size w (w3.setCell ⟨w.heap.size + 1, j, none⟩ (.int .u64 ((rds xs)[j]'HLJ.out)))) := by
        refine ⟨?_, LAt.setO R3.out.2.1 j _ (by omega), R3.out.2.2.setCell (by show _ ≤ _; simp) _⟩
        have := R3.out.1.set j (.int .u64 ((rds xs)[j]'HLJ.out))
        rw [← filled_step (rds xs) j HLJ.out]
        simpa [U64, List.map_set] using this
      have P4 : Hid (LAt 139 (w3.setCell ⟨w.heap.size + 1, j, none⟩ (.int .u64 ((rds xs)[j]'HLJ.out))) wr.heap.size (fpair a0 k0)) := LAt.setO P3.out j _ (by have := HLT.out; omega)
      generalize (rds xs)[j]'HLJ.out = V at *
      go_simp
      refine hKc.out _ _ P4.out (fun hHeld => ?_)
      clear hKc Kc
      refine wpAnyH_done (by kernel_rfl) (NoPanic.normal ?_) _
      clear hHeld P4 P3 R3 R2 P2 hu hfz
      go_wp2_with fail
      go_roundw
      case rel => exact ⟨j + 1, by omega, by go_num, HQ.out⟩
      case measure => simp [intOf]; omega
    · obtain rfl : j = 8 := by omega
      have HN : Hid (LAt 136 wr (w.heap.size + 1) (U64 (rds xs))) := by have := HR.out.1; rw [filled_all (rds xs) 8 (Nat.le_refl _)] at this; exact this
      have r1 := rd_one xs HX.out.byte 1 (by omega)
      have r2 := rd_one xs HX.out.byte 2 (by omega)
      have r3 := rd_one xs HX.out.byte 3 (by omega)
      have r4 := rd_one xs HX.out.byte 4 (by omega)
      have r5 := rd_one xs HX.out.byte 5 (by omega)
      have c1 : wr.cell? ⟨w.heap.size + 1, 1, none⟩ = some (.int .u64 (rd xs 1)) := HN.out.cell 1
      have c2 : wr.cell? ⟨w.heap.size + 1, 2, none⟩ = some (.int .u64 (rd xs 2)) := HN.out.cell 2
      have c3 : wr.cell? ⟨w.heap.size + 1, 3, none⟩ = some (.int .u64 (rd xs 3)) := HN.out.cell 3
      have c4 : wr.cell? ⟨w.heap.size + 1, 4, none⟩ = some (.int .u64 (rd xs 4)) := HN.out.cell 4
      have c5 : wr.cell? ⟨w.heap.size + 1, 5, none⟩ = some (.int .u64 (rd xs 5)) := HN.out.cell 5
      have c6 : wr.cell? ⟨w.heap.size + 1, 6, none⟩ = some (.int .u64 (rd xs 6)) := HN.out.cell 6
      have c7 : wr.cell? ⟨w.heap.size + 1, 7, none⟩ = some (.int .u64 (rd xs 7)) := HN.out.cell 7
      obtain ⟨r, hr⟩ : ∃ r, r = readS xs := ⟨_, rfl⟩
      have HE : Hid (r = readS xs) := hr
      have e1 : rd xs 1 = r.bl := by rw [hr]; rfl
      have e2 : rd xs 2 = r.lc := by rw [hr]; rfl
      have e3 : rd xs 3 = r.mr := by rw [hr]; rfl
      have e4 : rd xs 4 = r.hi := by rw [hr]; rfl
      have e5 : rd xs 5 = r.cl := by rw [hr]; rfl
      have e6 : rd xs 6 = r.tail := by rw [hr]; rfl
      have e7 : rd xs 7 = r.life := by rw [hr]; rfl
      rw [e1] at r1 c1
      rw [e2] at r2 c2
      rw [e3] at r3 c3
      rw [e4] at r4 c4
      rw [e5] at r5 c5
      rw [e6] at c6
      rw [e7] at c7
      obtain ⟨r10, r11⟩ := r1
      obtain ⟨r20, r21⟩ := r2
      obtain ⟨r30, r31⟩ := r3
      obtain ⟨r40, r41⟩ := r4
      obtain ⟨r50, r51⟩ := r5
      have q1 : IntKind.i64.wrap r.bl = r.bl := by rw [IntKind.wrap_i64]; omega
      have q2 : IntKind.i64.wrap r.lc = r.lc := by rw [IntKind.wrap_i64]; omega
      have q3 : IntKind.i64.wrap r.mr = r.mr := by rw [IntKind.wrap_i64]; omega
      have q4 : IntKind.i64.wrap r.hi = r.hi := by rw [IntKind.wrap_i64]; omega
      have q5 : IntKind.i64.wrap r.cl = r.cl := by rw [IntKind.wrap_i64]; omega
      have ST : Hid (_) := LAt.store (ds := scells r) HR.out.2.1 size29 rfl (scells_all r)
      have HF : Hid (SAt 81 (wr.setRow w.heap.size (scells r).toArray) w.heap.size r ∧ Below w.heap.size w (wr.setRow w.heap.size (scells r).toArray)) := ⟨LAt.stored HR.out.2.1 _, below_setRow HR.out.2.2 (Nat.le_refl _) _⟩
      clear hr e1 e2 e3 e4 e5 e6 e7 r10 r11 r20 r21 r30 r31 r40 r41 r50 r51 HN HR
      go_wp2_with ((with_reducible refine at_ops ?_); (refine wpList_store_is (by rfl) 81 rfl rfl rfl ST.out ?_); simp only [Act.put])
      rw [← HE.out]
      exact bodyPost_ret (results_cell1 Tryz.results66 _ _ w.heap.size 81 _ _ (by rfl) HF.out.1 Tryz.underlying81 rfl size29) rfl ⟨rfl, HF.out.2⟩
set_option maxHeartbeats 1000000 in
set_option maxRecDepth 100000 in
theorem decode_len (p : Option Addr) (n c : Nat) (w : World) (hn : n ≠ 64) :
    Calls Tryz.prog 45 #[.slice p n c] w fun e w' => e = .returned (.tuple #[.agg (scells sup0).toArray, .int .i64 2]) ∧ Below w.heap.size w w' := by
  have A1 : Hid (_) := alloc29 w
  have R1 : Hid (SAt 81 (w.alloc (.cells (scells sup0).toArray 81)) w.heap.size sup0) := LAt.new 81 w _
  have S1 : Hid (_) := store_new29 w sup0
  have hn' : (((n : Nat) : Int) != 64) = true := by simp; omega
  go_enter Tryz.func45, Tryz.ntmps45
  go_wp2_with ((with_reducible refine at_ops ?_); (first | (refine wpList_alloc_is (by rfl) 81 rfl A1.out ?_) | (refine wpList_build_is (vs := []) (by rfl) 81 rfl (by rfl) (build29 _ #[] sup0 fill_none) ?_) | (refine wpList_store_is (by rfl) 81 rfl rfl rfl S1.out ?_)); simp only [Act.put, List.setIfInBounds_toArray, List.set_cons_zero, List.set_cons_succ])
  exact bodyPost_ret (results_sup Tryz.results45 _ _ w.heap.size 81 _ _ (by rfl) R1.out Tryz.underlying81 rfl size29) rfl ⟨rfl, below_alloc w _⟩
set_option maxHeartbeats 2000000 in
set_option maxRecDepth 100000 in
theorem decode_64 (b o c : Nat) (xs : List Int) (w : World) (hx : BIn w (some ⟨b, o, none⟩) 64 xs) (hc : 64 ≤ c) (ht : Tab w) :
    Calls Tryz.prog 45 #[.slice (some ⟨b, o, none⟩) 64 c] w fun e w' => e = .returned (.tuple #[.agg (scells (decS xs).1).toArray, .int .i64 (decS xs).2]) ∧ Below w.heap.size w w' := by
  have A1 : Hid (_) := alloc29 w
  have R1 : Hid (SAt 81 (w.alloc (.cells (scells sup0).toArray 81)) w.heap.size sup0) := LAt.new 81 w _
  have B1 : Hid (Below w.heap.size w (w.alloc (.cells (scells sup0).toArray 81))) := below_alloc w _
  have HX : Hid (BIn (w.alloc (.cells (scells sup0).toArray 81)) (some ⟨b, o, none⟩) 64 xs) := hx.later (below_alloc w _)
  have HT : Hid (Tab w) := ht
  have HW : Hid ((readS xs).Wf) := readS_wf xs hx.byte
  have HL : Hid (xs.length = 64) := hx.len
  clear hx ht
  go_enter Tryz.func45, Tryz.ntmps45
  go_wp2_with ((with_reducible refine at_ops ?_); (refine wpList_alloc_is (by rfl) 81 rfl A1.out ?_); simp only [Act.put, List.setIfInBounds_toArray, List.set_cons_zero, List.set_cons_succ])
  refine (read_any b o c xs _ HX.out hc (HT.out.later B1.out)).mono ?_
  rintro e w1 ⟨rfl, b1⟩
  have R2 : Hid (SAt 81 w1 w.heap.size sup0) := LAt.later R1.out b1
  have B2 : Hid (Below w.heap.size w w1) := below_of_alloc b1
  have X2 : Hid (BIn w1 (some ⟨b, o, none⟩) 64 xs) := HX.out.later b1
  clear b1 R1 HX A1 B1
  obtain ⟨r, hr⟩ : ∃ r, r = readS xs := ⟨_, rfl⟩
  have HRR : Hid (r = readS xs) := hr
  rw [← hr] at HW ⊢
  clear hr
  have A2 : Hid (_) := alloc29 w1
  have S2 : Hid (_) := store_new29 w1 r
  have R3 : Hid (SAt 81 (w1.alloc (.cells (scells r).toArray 81)) w1.heap.size r) := LAt.new 81 w1 _
  have L3 : Hid (_) := SAt.load29 R3.out
  go_wp2_with ((with_reducible refine at_ops ?_); (first | (refine wpList_alloc_is (by rfl) 81 rfl A2.out ?_) | (refine wpList_store_is (by rfl) 81 rfl rfl rfl S2.out ?_) | (refine wpList_load_is (by rfl) 81 rfl rfl L3.out ?_)); simp only [Act.put, List.setIfInBounds_toArray, List.set_cons_zero, List.set_cons_succ])
  have B3 : Below w1.heap.size w1 (w1.alloc (.cells (scells r).toArray 81)) := below_alloc w1 _
  refine (encode_any r HW.out _ (HT.out.later (below_then B2.out B3))).mono ?_
  rintro e w2 ⟨p2, n2, c2, rfl, hn2, m2⟩
  have B4 := below_then B3 m2.below
  have R4 : Hid (SAt 81 w2 w1.heap.size r) := LAt.later R3.out m2.below
  have R5 : Hid (SAt 81 w2 w.heap.size sup0) := LAt.later R2.out B4
  have HB : Hid (Below w.heap.size w w2) := below_then B2.out B4
  have X4 : Hid (BIn w2 (some ⟨b, o, none⟩) 64 xs) := X2.out.later B4
  have E4 : Hid (BIn w2 p2 n2 (encT r)) := m2.read
  clear m2 B3 B4 R3 L3 S2 A2 R2 B2 X2 hn2
  have L4 : Hid (_) := SAt.load29 R4.out
  have ST : Hid (_) := LAt.store (ds := scells r) R5.out size29 rfl (scells_all r)
  have SZ : Hid (_) := LAt.store (ds := scells sup0) R5.out size29 rfl (scells_all sup0)
  have F1 : Hid (SAt 81 (w2.setRow w.heap.size (scells r).toArray) w.heap.size r ∧ Below w.heap.size w (w2.setRow w.heap.size (scells r).toArray)) := ⟨LAt.stored R5.out _, below_setRow HB.out (Nat.le_refl _) _⟩
  have F0 : Hid (SAt 81 (w2.setRow w.heap.size (scells sup0).toArray) w.heap.size sup0 ∧ Below w.heap.size w (w2.setRow w.heap.size (scells sup0).toArray)) := ⟨LAt.stored R5.out _, below_setRow HB.out (Nat.le_refl _) _⟩
  by_cases hm : May r
  · rw [chk_yes r hm]
    by_cases he : encS r = xs
    · have hq : decide (encT r = xs) = true := by rw [encT_yes r hm, he]; simp
      have HD : Hid (decS xs = (r, 0)) := by
        show _ = _
        rw [decS_ok xs HL.out (by unfold Good; rw [← HRR.out]; exact ⟨hm, he⟩), HRR.out]
      clear he hm
      go_wp2_with fail
      refine (equal_any p2 (some ⟨b, o, none⟩) n2 c2 64 c (encT r) xs w2 E4.out X4.out).mono ?_
      rintro e w3 ⟨rfl, rfl⟩
      go_wp2_with ((with_reducible refine at_ops ?_); (first | (refine wpList_store_is (by rfl) 81 rfl rfl rfl ST.out ?_) | (refine wpList_load_is (by rfl) 81 rfl rfl L4.out ?_)); simp only [Act.put, List.setIfInBounds_toArray, List.set_cons_zero, List.set_cons_succ])
      rw [HD.out]
      exact bodyPost_ret (results_sup Tryz.results45 _ _ w.heap.size 81 _ _ (by rfl) F1.out.1 Tryz.underlying81 rfl size29) rfl ⟨rfl, F1.out.2⟩
    · have hq : decide (encT r = xs) = false := by rw [encT_yes r hm]; simp [he]
      have HD : Hid (decS xs = (sup0, 70)) := decS_bad xs HL.out (by unfold Good; rw [← HRR.out]; exact fun h => he h.2)
      clear he hm
      go_wp2_with fail
      refine (equal_any p2 (some ⟨b, o, none⟩) n2 c2 64 c (encT r) xs w2 E4.out X4.out).mono ?_
      rintro e w3 ⟨rfl, rfl⟩
      go_wp2_with ((with_reducible refine at_ops ?_); (first | (refine wpList_store_is (by rfl) 81 rfl rfl rfl SZ.out ?_) | (refine wpList_build_is (vs := []) (by rfl) 81 rfl (by rfl) (build29 _ #[] sup0 fill_none) ?_)); simp only [Act.put, List.setIfInBounds_toArray, List.set_cons_zero, List.set_cons_succ])
      rw [HD.out]
      exact bodyPost_ret (results_sup Tryz.results45 _ _ w.heap.size 81 _ _ (by rfl) F0.out.1 Tryz.underlying81 rfl size29) rfl ⟨rfl, F0.out.2⟩
  · have hc0 : chk r ≠ 0 := fun h => hm ((chk_zero r).1 h)
    generalize chk r = q at *
    have HD : Hid (decS xs = (sup0, 70)) := decS_bad xs HL.out (by unfold Good; rw [← HRR.out]; exact fun h => hm h.1)
    clear hm
    go_wp2_with ((with_reducible refine at_ops ?_); (first | (refine wpList_store_is (by rfl) 81 rfl rfl rfl SZ.out ?_) | (refine wpList_build_is (vs := []) (by rfl) 81 rfl (by rfl) (build29 _ #[] sup0 fill_none) ?_)); simp only [Act.put, List.setIfInBounds_toArray, List.set_cons_zero, List.set_cons_succ])
    rw [HD.out]
    exact bodyPost_ret (results_sup Tryz.results45 _ _ w.heap.size 81 _ _ (by rfl) F0.out.1 Tryz.underlying81 rfl size29) rfl ⟨rfl, F0.out.2⟩
/-- Decode, of whatever bytes: its answers -/
theorem decode_any (p : Option Addr) (n c : Nat) (xs : List Int) (w : World) (hx : BIn w p n xs) (hc : n ≤ c) (ht : Tab w) :
    Calls Tryz.prog 45 #[.slice p n c] w fun e w' => e = .returned (.tuple #[.agg (scells (decS xs).1).toArray, .int .i64 (decS xs).2]) ∧ Below w.heap.size w w' := by
  by_cases h : n = 64
  · subst h
    obtain ⟨b, o, rfl, -⟩ := hx.cells (by omega)
    exact decode_64 b o c xs w hx hc ht
  · rw [decS_len xs (by rw [hx.len]; exact h)]
    exact decode_len p n c w h
end Go.Proofs.YtefnkjajjidfaaaGreatDoor
