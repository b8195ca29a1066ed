/-
  Layer 16: BufferAgain.
-/
import Derived.Test.YthgkdpniaednaaaRa
import Derived.Test.YthgkdpniaednaaaQc
import Derived.Deep.Cut
import Derived.Deep.CutBlock
namespace Go.Proofs.Ythgkdpniaednaaa
open Go.RowKit

open B (I64)
theorem grow_below {w w' : World} {B Q cf : Nat} {pf : Option Addr} {F : List Int} {vi vi' : Value} {L' : List Im} {w0 : World} (hw : Wrt w w' Q pf cf F vi vi' L') (hb : Below B w0 w) (hB : B ≤ w0.heap.size) (hQ : B ≤ Q) (hv : ∀ g, vi.ownBlock = some g → B ≤ g) : Below B w0 w' ∧ ∀ g, vi'.ownBlock = some g → B ≤ g :=
  ⟨hw.kept.into hb (fun b hlt e => by
    rcases e with e | e
    · omega
    · have := hv b e; omega) hB, fun g hg => by
    rcases hw.new g hg with e | e
    · exact hv g e
    · have := hb.size; omega⟩
set_option maxHeartbeats 2000000 in
set_option maxRecDepth 100000 in
theorem bufferAgain_any {w : World} {p q : Option Addr} {n c m d : Nat} {F : List Int} {X : List Im} (tu : Bool) (hF : B.IIn w p n F) (hnc : n ≤ c) (hn : n ≤ 140737488355328) (hX : MIn w q m X) (hm : m ≤ 9223372036854775807) :
    Calls Try.prog 3 #[.slice p n c, .slice q m d, .bool tu] w fun e w' => e = .returned (.bool true) ∧ Below w.heap.size w w' := by
  have HF : Hid (B.IIn w p n F) := hF
  have HX : Hid (MIn w q m X) := hX
  have HLF : Hid (F.length = n) := hF.len
  clear hF hX
  go_enter Try.func3, Try.ntmps3
  cases hi : B.isS F with
  | false =>
    go_wp2_with fail
    refine (new_no HF.out hnc hn hi).mono ?_
    rintro e w1 ⟨rfl, h1⟩
    rw [h1]
    clear h1 w1
    go_wp2_with fail
    refine (awake_is w).mono ?_
    rintro e w1 ⟨rfl, b1⟩
    have K1 : Hid (Below w.heap.size w w1) := b1
    clear b1
    go_wp2_with fail
    refine (awake_is w1).mono ?_
    rintro e w2 ⟨rfl, b2⟩
    have K2 : Hid (Below w.heap.size w w2) := below_then K1.out b2
    clear b2 K1
    go_wp2
    go_ret
    exact ⟨rfl, K2.out⟩
  | true =>
    have HI : Hid (B.isS F = true) := hi
    have hl := isS_len hi
    rw [HLF.out] at hl
    go_wp2_with fail
    refine (new_at HF.out hnc hn hi).mono ?_
    rintro e w1 ⟨Q, pf, cf, rfl, hN, hpf⟩
    clear hi
    go_wp2_with fail
    refine (awake_is w1).mono ?_
    rintro e w2 ⟨rfl, b2⟩
    have A2 : Hid (BAt w2 Q pf cf F (.slice none 0 0) []) := hN.at'.later b2
    have O2 : Hid (Okb F []) := Okb.new HI.out
    have K2 : Hid (Below w.heap.size w w2) := below_then hN.below b2
    have GQ : Hid (w.heap.size ≤ Q) := hN.q
    have G2 : Hid (∀ g, (Value.slice none 0 0).ownBlock = some g → w.heap.size ≤ g) := fun g hg => by cases hg
    clear hN hpf b2
    go_upto_block 0 with fail
    go_cut [9, 10, 11, 12, 13] from 50 to 110 (fun _ _ _ _ _ wr => ∃ (L : List Im) (vi : Value), Hid (BAt wr Q pf cf F vi L) ∧ Hid (Okb F L) ∧ Hid (Below w.heap.size w wr) ∧ Hid (∀ g, vi.ownBlock = some g → w.heap.size ≤ g))
    case first =>
      go_wp2_with fail
      go_loopw [9] (fun i wr => ∃ (j : Nat) (L : List Im) (vi : Value), j ≤ m ∧ i = .int .i64 j ∧ Hid (BAt wr Q pf cf F vi L) ∧ Hid (Okb F L) ∧ Hid (Below w.heap.size w wr) ∧ Hid (∀ g, vi.ownBlock = some g → w.heap.size ≤ g)) (fun i _ => m - (intOf i).toNat)
      case atStart => exact ⟨0, [], _, Nat.zero_le _, rfl, A2, O2, K2, G2⟩
      case round =>
        obtain ⟨j, L, vi, hj, rfl, A, O3, K, GV⟩ := hrel
        clear A2 O2 K2 G2
        by_cases hlt : j < m ∧ j < 100
        · obtain ⟨x, hx⟩ : ∃ x, X[j]? = some x := ⟨_, List.getElem?_eq_getElem (by rw [HX.out.len]; omega)⟩
          obtain ⟨b1, o1, rfl, -⟩ := HX.out.cells (by omega)
          have HXW : Hid (Im.Wf x) := HX.out.wf x (List.mem_of_getElem? hx)
          have HXB : Hid (∀ W, Below w.heap.size w W → W.cell? ⟨b1, o1 + j * 33, none⟩ = some (.int .i64 x.b)) := fun W hW => (HX.out.later hW).c0 hx
          have HXV : Hid (∀ W, Below w.heap.size w W → W.rangeAt b1 (o1 + j * 33 + 1) (U8 x.v)) := fun W hW k v hk => by
            rw [show o1 + j * 33 + 1 + k = o1 + j * 33 + (k + 1) by omega]
            exact (HX.out.later hW).at hx (k + 1) v (by simpa [icells] using hk)
          have hxb0 := HXB.out wr K.out
          have HF3 : Hid (B.IIn wr p n F) := HF.out.later K.out
          have A3 : Hid (BAt wr.drew Q pf cf F vi L) := A.out.later (show Below wr.heap.size wr wr.drew from below_drawn 1)
          have K3 : Hid (Below w.heap.size w wr.drew) := below_then K.out (show Below wr.heap.size wr wr.drew from below_drawn 1)
          have i1 : (j : Int) < (m : Int) := by omega
          have i2 : (j : Int) < 100 := by omega
          have i0 : (0 : Int) ≤ (j : Int) := by omega
          have QE : Hid (∀ w, (binOp .neq 31 (.agg (U8 x.v).toArray) (.agg (U8 x.v).toArray)).run Try.prog w = .ok (.bool false) w) := fun w => by rw [neqV w _ _ HXW.out.len HXW.out.len, decide_eq_true rfl]; rfl
          clear hx A K
          by_cases hb : x.b ∈ F
          · have HR : Hid (refS F x.b = 0) := refS_in hb
            have HH : Hid (B.hasS F x.b = true) := B.hasS_iff.2 hb
            have HRD : Hid (rdV F (wrS F L x.b x.v) x.b = x.v ∧ rdB F (wrS F L x.b x.v) x.b = true) := rd_wrote O3.out hb
            clear hb
            go_wp2_with (go_at_call 8; refine (B.rhas_is _ _ _ _ _ _ HF3.out (by omega)).mono ?_; rintro e w' ⟨rfl, hw'⟩; rw [← hw', HH.out]; clear hw' w')
            refine wp_region_noPanic ?_
            refine wp_region_held_drew (S := fun W => Below w.heap.size w W) (by kernel_rfl) K3.out (fun hHeld => ?_)
            refine wpAnyH_take (i := 0) (v := ?va1) (by simp; rfl) (by kernel_rfl) (by kernel_rfl) (by kernel_rfl) (fun _ _ _ h => h) (Or.inl ⟨by rfl, ?ya1⟩) hHeld ?ra1
            case ya1 => intro w hSw; clear hSw; go_simp; with_reducible rfl
            simp only [Act.put, List.setIfInBounds_toArray, List.set_cons_zero, List.set_cons_succ]
            refine wpAnyH_take (i := 1) (v := ?va2) (by simp; rfl) (by kernel_rfl) (by kernel_rfl) (by kernel_rfl) (fun _ _ _ h => h) (Or.inl ⟨by rfl, ?ya2⟩) hHeld ?ra2
            case ya2 => intro w hSw; clear hSw; go_simp; with_reducible rfl
            simp only [Act.put, List.setIfInBounds_toArray, List.set_cons_zero, List.set_cons_succ]
            refine wpAnyH_take (i := 2) (v := ?va3) (by simp; rfl) (by kernel_rfl) (by kernel_rfl) (by kernel_rfl) (fun _ _ _ h => h) (Or.inl ⟨by rfl, ?ya3⟩) hHeld ?ra3
            case ya3 => intro w hSw; clear hSw; go_simp; with_reducible rfl
            simp only [Act.put, List.setIfInBounds_toArray, List.set_cons_zero, List.set_cons_succ]
            refine wpAnyH_take (i := 3) (v := ?va4) (by simp; rfl) (by kernel_rfl) (by kernel_rfl) (by kernel_rfl) (fun _ _ _ h => h) (Or.inl ⟨by rfl, ?ya4⟩) hHeld ?ra4
            case ya4 => intro w hSw; clear hSw; go_simp; with_reducible rfl
            simp only [Act.put, List.setIfInBounds_toArray, List.set_cons_zero, List.set_cons_succ]
            refine wpAnyH_take (i := 4) (v := ?va5) (by simp; rfl) (by kernel_rfl) (by kernel_rfl) (by kernel_rfl) (fun _ _ _ h => h) (Or.inl ⟨by rfl, ?ya5⟩) hHeld ?ra5
            case ya5 => intro w hSw; clear hSw; go_simp; with_reducible rfl
            simp only [Act.put, List.setIfInBounds_toArray, List.set_cons_zero, List.set_cons_succ]
            refine wpAnyH_take (i := 5) (v := ?va6) (by simp; rfl) (by kernel_rfl) (by kernel_rfl) (by kernel_rfl) (fun _ _ _ h => h) (Or.inl ⟨by rfl, ?ya6⟩) hHeld ?ra6
            case ya6 => intro w hSw; have z := HXB.out w hSw; clear hSw; go_simp; with_reducible rfl
            simp only [Act.put, List.setIfInBounds_toArray, List.set_cons_zero, List.set_cons_succ]
            refine wpAnyH_take (i := 6) (v := ?va7) (by simp; rfl) (by kernel_rfl) (by kernel_rfl) (by kernel_rfl) (fun _ _ _ h => h) (Or.inl ⟨by rfl, ?ya7⟩) hHeld ?ra7
            case ya7 => intro w hSw; clear hSw; go_simp; with_reducible rfl
            simp only [Act.put, List.setIfInBounds_toArray, List.set_cons_zero, List.set_cons_succ]
            refine wpAnyH_take (i := 7) (v := ?va8) (by simp; rfl) (by kernel_rfl) (by kernel_rfl) (by kernel_rfl) (fun _ _ _ h => h) (Or.inl ⟨by rfl, ?ya8⟩) hHeld ?ra8
            case ya8 => intro w hSw; clear hSw; go_simp; with_reducible rfl
            simp only [Act.put, List.setIfInBounds_toArray, List.set_cons_zero, List.set_cons_succ]
            refine wpAnyH_take (i := 8) (v := ?va9) (by simp; rfl) (by kernel_rfl) (by kernel_rfl) (by kernel_rfl) (fun _ _ _ h => h) (Or.inl ⟨by rfl, ?ya9⟩) hHeld ?ra9
            case ya9 => intro w hSw; clear hSw; go_simp; with_reducible rfl
            simp only [Act.put, List.setIfInBounds_toArray, List.set_cons_zero, List.set_cons_succ]
            refine wpAnyH_take (i := 9) (v := ?va10) (by simp; rfl) (by kernel_rfl) (by kernel_rfl) (by kernel_rfl) (fun _ _ _ h => h) (Or.inl ⟨by rfl, ?ya10⟩) hHeld ?ra10
            case ya10 => intro w hSw; clear hSw; go_simp; with_reducible rfl
            simp only [Act.put, List.setIfInBounds_toArray, List.set_cons_zero, List.set_cons_succ]
            refine wpAnyH_take (i := 10) (v := _) (by simp; rfl) (by kernel_rfl) (by kernel_rfl) (by kernel_rfl) (fun _ _ _ h => h) (yieldsIf_load_mid (by rfl) 31 (.tmp 76) rfl b1 (o1 + j * 33 + 1) rfl (U8 x.v) _ (fun W hW => HXV.out W hW) Try.underlying31 rfl (by rw [sizeV, U8_length, HXW.out.len])) hHeld ?_
            simp only [Act.put, List.setIfInBounds_toArray, List.set_cons_zero, List.set_cons_succ]
            refine wpAnyH_take (i := 13) (v := ?va11) (by simp; rfl) (by kernel_rfl) (by kernel_rfl) (by kernel_rfl) (fun _ _ _ h => h) (Or.inl ⟨by rfl, ?ya11⟩) hHeld ?ra11
            case ya11 => intro w hSw; clear hSw; go_simp; with_reducible rfl
            simp only [Act.put, List.setIfInBounds_toArray, List.set_cons_zero, List.set_cons_succ]
            refine wpAnyH_ready (rs := [11]) (by kernel_rfl) (by simp) ?_
            refine AllReadyH.cons (by simp; rfl) (fun Kc hKc => ?_) AllReadyH.nil
            go_simp
            refine (write_at A3.out O3.out (b := x.b) (v := x.v) HXW.out).mono ?_
            rintro e w4 ⟨rfl, v4, hW⟩
            have A4 : Hid (BAt w4 Q pf cf F v4 (wrS F L x.b x.v)) := hW.at'
            have O4 : Hid (Okb F (wrS F L x.b x.v)) := O3.out.wrote HXW.out
            obtain ⟨k4, g4⟩ := grow_below hW K3.out (Nat.le_refl _) GQ.out GV.out
            have K4 : Hid (Below w.heap.size w w4) := k4
            have G4 : Hid (∀ g, v4.ownBlock = some g → w.heap.size ≤ g) := g4
            rw [HR.out]
            refine hKc.out _ _ k4 (fun hHeld => ?_)
            clear hKc Kc hW k4 g4
            refine wpAnyH_take (i := 12) (v := ?va12) (by simp; rfl) (by kernel_rfl) (by kernel_rfl) (by kernel_rfl) (fun _ _ _ h => h) (Or.inl ⟨by rfl, ?ya12⟩) hHeld ?ra12
            case ya12 => intro w hSw; clear hSw; go_simp; with_reducible rfl
            simp only [Act.put, List.setIfInBounds_toArray, List.set_cons_zero, List.set_cons_succ]
            refine wpAnyH_take (i := 14) (v := ?va13) (by simp; rfl) (by kernel_rfl) (by kernel_rfl) (by kernel_rfl) (fun _ _ _ h => h) (Or.inl ⟨by rfl, ?ya13⟩) hHeld ?ra13
            case ya13 => intro w hSw; clear hSw; go_simp; with_reducible rfl
            simp only [Act.put, List.setIfInBounds_toArray, List.set_cons_zero, List.set_cons_succ]
            refine wpAnyH_done (by kernel_rfl) (NoPanic.normal ?_) _
            have hxb4 := HXB.out w4 K4.out
            clear hxb0
            go_wp2_with fail
            clear hxb4
            refine (read_at A4.out O4.out x.b).mono ?_
            rintro e w5 ⟨rfl, b5⟩
            rw [HRD.out.1, HRD.out.2, HR.out]
            obtain ⟨u5, z5, hu5, hz5, hv5, hb5⟩ := newV w5 (x.v) HXW.out.len
            have L5 : Hid ((Instr.alloc 31 true (.tuple #[])).run Try.prog w5 = .ok (.pointer (some ⟨w5.heap.size, 0, none⟩)) u5) := hu5
            have T5 : Hid ((Instr.storeAt 31 (.pointer (some ⟨w5.heap.size, 0, none⟩)) (.agg (U8 (x.v)).toArray)).run Try.prog u5 = .ok () z5) := hz5
            have V5 : Hid (VAt z5 w5.heap.size (x.v)) := hv5
            have Z5 : Hid (Below w5.heap.size w5 z5) := hb5
            clear hu5 hz5 hv5 hb5
            obtain ⟨n5, e5⟩ : ∃ n5, n5 = w5.heap.size := ⟨_, rfl⟩
            rw [← e5] at L5 T5 V5
            clear e5
            have b56 : Below w4.heap.size w4 z5.drew := below_then (below_then b5 Z5.out) (show Below z5.heap.size z5 z5.drew from below_drawn 1)
            have A6 : Hid (BAt z5.drew Q pf cf F v4 (wrS F L x.b x.v)) := A4.out.later b56
            have K6 : Hid (Below w.heap.size w z5.drew) := below_then K4.out b56
            have V6 : Hid (VAt z5.drew n5 (x.v)) := LAt.later V5.out (show Below z5.heap.size z5 z5.drew from below_drawn 1)
            clear b5 b56 A4 K4 V5 Z5
            go_wp2_with (first | ((with_reducible refine at_ops ?_); (first | ((refine wpList_alloc_is (by rfl) 31 rfl L5.out ?_); simp only [Act.put, List.setIfInBounds_toArray, List.set_cons_zero, List.set_cons_succ]) | ((refine wpList_store_is (by rfl) 31 rfl rfl rfl T5.out ?_); simp only [Act.put]))))
            clear L5 T5
            refine wp_region_noPanic ?_
            refine wp_region_held_drew (S := fun W => Below z5.drew.heap.size z5.drew W) (by kernel_rfl) (Below.refl _ _) (fun hHeld => ?_)
            generalize z5.drew = w6 at *
            refine wpAnyH_take (i := 0) (v := ?va14) (by simp; rfl) (by kernel_rfl) (by kernel_rfl) (by kernel_rfl) (fun _ _ _ h => h) (Or.inl ⟨by rfl, ?ya14⟩) hHeld ?ra14
            case ya14 => intro w hSw; clear hSw; go_simp; with_reducible rfl
            simp only [Act.put, List.setIfInBounds_toArray, List.set_cons_zero, List.set_cons_succ]
            refine wpAnyH_take (i := 1) (v := ?va15) (by simp; rfl) (by kernel_rfl) (by kernel_rfl) (by kernel_rfl) (fun _ _ _ h => h) (Or.inl ⟨by rfl, ?ya15⟩) hHeld ?ra15
            case ya15 => intro w hSw; clear hSw; go_simp; with_reducible rfl
            simp only [Act.put, List.setIfInBounds_toArray, List.set_cons_zero, List.set_cons_succ]
            refine wpAnyH_take (i := 2) (v := _) (by simp; rfl) (by kernel_rfl) (by kernel_rfl) (by kernel_rfl) (fun _ _ _ h => h) (yieldsIf_load_mid (by rfl) 31 (.tmp 11) rfl n5 0 rfl (U8 x.v) _ (fun W hW => LAt.range (LAt.later V6.out hW)) Try.underlying31 rfl (by rw [sizeV, U8_length, HXW.out.len])) hHeld ?_
            simp only [Act.put, List.setIfInBounds_toArray, List.set_cons_zero, List.set_cons_succ]
            refine wpAnyH_take (i := 3) (v := ?va16) (by simp; rfl) (by kernel_rfl) (by kernel_rfl) (by kernel_rfl) (fun _ _ _ h => h) (Or.inl ⟨by rfl, ?ya16⟩) hHeld ?ra16
            case ya16 => intro w hSw; clear hSw; go_simp; with_reducible rfl
            simp only [Act.put, List.setIfInBounds_toArray, List.set_cons_zero, List.set_cons_succ]
            refine wpAnyH_take (i := 4) (v := ?va17) (by simp; rfl) (by kernel_rfl) (by kernel_rfl) (by kernel_rfl) (fun _ _ _ h => h) (Or.inl ⟨by rfl, ?ya17⟩) hHeld ?ra17
            case ya17 => intro w hSw; clear hSw; go_simp; with_reducible rfl
            simp only [Act.put, List.setIfInBounds_toArray, List.set_cons_zero, List.set_cons_succ]
            refine wpAnyH_take (i := 5) (v := ?va18) (by simp; rfl) (by kernel_rfl) (by kernel_rfl) (by kernel_rfl) (fun _ _ _ h => h) (Or.inl ⟨by rfl, ?ya18⟩) hHeld ?ra18
            case ya18 => intro w hSw; clear hSw; go_simp; with_reducible rfl
            simp only [Act.put, List.setIfInBounds_toArray, List.set_cons_zero, List.set_cons_succ]
            refine wpAnyH_take (i := 6) (v := ?va19) (by simp; rfl) (by kernel_rfl) (by kernel_rfl) (by kernel_rfl) (fun _ _ _ h => h) (Or.inl ⟨by rfl, ?ya19⟩) hHeld ?ra19
            case ya19 => intro w hSw; clear hSw; go_simp; with_reducible rfl
            simp only [Act.put, List.setIfInBounds_toArray, List.set_cons_zero, List.set_cons_succ]
            refine wpAnyH_take (i := 7) (v := _) (by simp; rfl) (by kernel_rfl) (by kernel_rfl) (by kernel_rfl) (fun _ _ _ h => h) (yieldsIf_load_mid (by rfl) 31 (.tmp 99) rfl b1 (o1 + j * 33 + 1) rfl (U8 x.v) _ (fun W hW => HXV.out W (below_then K6.out hW)) Try.underlying31 rfl (by rw [sizeV, U8_length, HXW.out.len])) hHeld ?_
            simp only [Act.put, List.setIfInBounds_toArray, List.set_cons_zero, List.set_cons_succ]
            refine wpAnyH_take (i := 8) (v := _) (by simp; rfl) (by kernel_rfl) (by kernel_rfl) (by kernel_rfl) (fun _ _ _ h => h) (yields_neq_is (by rfl) 31 rfl rfl rfl eqgV QE.out) hHeld ?_
            simp only [Act.put, List.setIfInBounds_toArray, List.set_cons_zero, List.set_cons_succ]
            refine wpAnyH_take (i := 9) (v := ?va20) (by simp; rfl) (by kernel_rfl) (by kernel_rfl) (by kernel_rfl) (fun _ _ _ h => h) (Or.inl ⟨by rfl, ?ya20⟩) hHeld ?ra20
            case ya20 => intro w hSw; clear hSw; go_simp; with_reducible rfl
            simp only [Act.put, List.setIfInBounds_toArray, List.set_cons_zero, List.set_cons_succ]
            refine wpAnyH_take (i := 10) (v := ?va21) (by simp; rfl) (by kernel_rfl) (by kernel_rfl) (by kernel_rfl) (fun _ _ _ h => h) (Or.inl ⟨by rfl, ?ya21⟩) hHeld ?ra21
            case ya21 => intro w hSw; clear hSw; go_simp; with_reducible rfl
            simp only [Act.put, List.setIfInBounds_toArray, List.set_cons_zero, List.set_cons_succ]
            refine wpAnyH_take (i := 11) (v := ?va22) (by simp; rfl) (by kernel_rfl) (by kernel_rfl) (by kernel_rfl) (fun _ _ _ h => h) (Or.inl ⟨by rfl, ?ya22⟩) hHeld ?ra22
            case ya22 => intro w hSw; clear hSw; go_simp; with_reducible rfl
            simp only [Act.put, List.setIfInBounds_toArray, List.set_cons_zero, List.set_cons_succ]
            refine wpAnyH_take (i := 12) (v := ?va23) (by simp; rfl) (by kernel_rfl) (by kernel_rfl) (by kernel_rfl) (fun _ _ _ h => h) (Or.inl ⟨by rfl, ?ya23⟩) hHeld ?ra23
            case ya23 => intro w hSw; clear hSw; go_simp; with_reducible rfl
            simp only [Act.put, List.setIfInBounds_toArray, List.set_cons_zero, List.set_cons_succ]
            refine wpAnyH_take (i := 13) (v := ?va24) (by simp; rfl) (by kernel_rfl) (by kernel_rfl) (by kernel_rfl) (fun _ _ _ h => h) (Or.inl ⟨by rfl, ?ya24⟩) hHeld ?ra24
            case ya24 => intro w hSw; clear hSw; go_simp; with_reducible rfl
            simp only [Act.put, List.setIfInBounds_toArray, List.set_cons_zero, List.set_cons_succ]
            refine wpAnyH_take (i := 14) (v := ?va25) (by simp; rfl) (by kernel_rfl) (by kernel_rfl) (by kernel_rfl) (fun _ _ _ h => h) (Or.inl ⟨by rfl, ?ya25⟩) hHeld ?ra25
            case ya25 => intro w hSw; clear hSw; go_simp; with_reducible rfl
            simp only [Act.put, List.setIfInBounds_toArray, List.set_cons_zero, List.set_cons_succ]
            refine wpAnyH_take (i := 15) (v := ?va26) (by simp; rfl) (by kernel_rfl) (by kernel_rfl) (by kernel_rfl) (fun _ _ _ h => h) (Or.inl ⟨by rfl, ?ya26⟩) hHeld ?ra26
            case ya26 => intro w hSw; clear hSw; go_simp; with_reducible rfl
            simp only [Act.put, List.setIfInBounds_toArray, List.set_cons_zero, List.set_cons_succ]
            refine wpAnyH_take (i := 16) (v := ?va27) (by simp; rfl) (by kernel_rfl) (by kernel_rfl) (by kernel_rfl) (fun _ _ _ h => h) (Or.inl ⟨by rfl, ?ya27⟩) hHeld ?ra27
            case ya27 => intro w hSw; clear hSw; go_simp; with_reducible rfl
            simp only [Act.put, List.setIfInBounds_toArray, List.set_cons_zero, List.set_cons_succ]
            refine wpAnyH_take (i := 17) (v := ?va28) (by simp; rfl) (by kernel_rfl) (by kernel_rfl) (by kernel_rfl) (fun _ _ _ h => h) (Or.inl ⟨by rfl, ?ya28⟩) hHeld ?ra28
            case ya28 => intro w hSw; clear hSw; go_simp; with_reducible rfl
            simp only [Act.put, List.setIfInBounds_toArray, List.set_cons_zero, List.set_cons_succ]
            clear hHeld
            refine wpAnyH_done (by kernel_rfl) (NoPanic.normal ?_) _
            go_wp2_with fail
            go_roundw
            case rel => exact ⟨j + 1, _, _, by omega, by go_num, A6, O4, K6, G4⟩
            case measure => simp [intOf]; omega
          · have HR : Hid (refS F x.b = 160) := refS_out hb
            have HH : Hid (B.hasS F x.b = false) := has_out hb
            have HRD : Hid (rdV F (wrS F L x.b x.v) x.b = zs 32 ∧ rdB F (wrS F L x.b x.v) x.b = false) := rd_outside hb
            clear hb
            go_wp2_with (go_at_call 8; refine (B.rhas_is _ _ _ _ _ _ HF3.out (by omega)).mono ?_; rintro e w' ⟨rfl, hw'⟩; rw [← hw', HH.out]; clear hw' w')
            refine wp_region_noPanic ?_
            refine wp_region_held_drew (S := fun W => Below w.heap.size w W) (by kernel_rfl) K3.out (fun hHeld => ?_)
            refine wpAnyH_take (i := 0) (v := ?va29) (by simp; rfl) (by kernel_rfl) (by kernel_rfl) (by kernel_rfl) (fun _ _ _ h => h) (Or.inl ⟨by rfl, ?ya29⟩) hHeld ?ra29
            case ya29 => intro w hSw; clear hSw; go_simp; with_reducible rfl
            simp only [Act.put, List.setIfInBounds_toArray, List.set_cons_zero, List.set_cons_succ]
            refine wpAnyH_take (i := 1) (v := ?va30) (by simp; rfl) (by kernel_rfl) (by kernel_rfl) (by kernel_rfl) (fun _ _ _ h => h) (Or.inl ⟨by rfl, ?ya30⟩) hHeld ?ra30
            case ya30 => intro w hSw; clear hSw; go_simp; with_reducible rfl
            simp only [Act.put, List.setIfInBounds_toArray, List.set_cons_zero, List.set_cons_succ]
            refine wpAnyH_take (i := 2) (v := ?va31) (by simp; rfl) (by kernel_rfl) (by kernel_rfl) (by kernel_rfl) (fun _ _ _ h => h) (Or.inl ⟨by rfl, ?ya31⟩) hHeld ?ra31
            case ya31 => intro w hSw; clear hSw; go_simp; with_reducible rfl
            simp only [Act.put, List.setIfInBounds_toArray, List.set_cons_zero, List.set_cons_succ]
            refine wpAnyH_take (i := 3) (v := ?va32) (by simp; rfl) (by kernel_rfl) (by kernel_rfl) (by kernel_rfl) (fun _ _ _ h => h) (Or.inl ⟨by rfl, ?ya32⟩) hHeld ?ra32
            case ya32 => intro w hSw; clear hSw; go_simp; with_reducible rfl
            simp only [Act.put, List.setIfInBounds_toArray, List.set_cons_zero, List.set_cons_succ]
            refine wpAnyH_take (i := 4) (v := ?va33) (by simp; rfl) (by kernel_rfl) (by kernel_rfl) (by kernel_rfl) (fun _ _ _ h => h) (Or.inl ⟨by rfl, ?ya33⟩) hHeld ?ra33
            case ya33 => intro w hSw; clear hSw; go_simp; with_reducible rfl
            simp only [Act.put, List.setIfInBounds_toArray, List.set_cons_zero, List.set_cons_succ]
            refine wpAnyH_take (i := 5) (v := ?va34) (by simp; rfl) (by kernel_rfl) (by kernel_rfl) (by kernel_rfl) (fun _ _ _ h => h) (Or.inl ⟨by rfl, ?ya34⟩) hHeld ?ra34
            case ya34 => intro w hSw; have z := HXB.out w hSw; clear hSw; go_simp; with_reducible rfl
            simp only [Act.put, List.setIfInBounds_toArray, List.set_cons_zero, List.set_cons_succ]
            refine wpAnyH_take (i := 6) (v := ?va35) (by simp; rfl) (by kernel_rfl) (by kernel_rfl) (by kernel_rfl) (fun _ _ _ h => h) (Or.inl ⟨by rfl, ?ya35⟩) hHeld ?ra35
            case ya35 => intro w hSw; clear hSw; go_simp; with_reducible rfl
            simp only [Act.put, List.setIfInBounds_toArray, List.set_cons_zero, List.set_cons_succ]
            refine wpAnyH_take (i := 7) (v := ?va36) (by simp; rfl) (by kernel_rfl) (by kernel_rfl) (by kernel_rfl) (fun _ _ _ h => h) (Or.inl ⟨by rfl, ?ya36⟩) hHeld ?ra36
            case ya36 => intro w hSw; clear hSw; go_simp; with_reducible rfl
            simp only [Act.put, List.setIfInBounds_toArray, List.set_cons_zero, List.set_cons_succ]
            refine wpAnyH_take (i := 8) (v := ?va37) (by simp; rfl) (by kernel_rfl) (by kernel_rfl) (by kernel_rfl) (fun _ _ _ h => h) (Or.inl ⟨by rfl, ?ya37⟩) hHeld ?ra37
            case ya37 => intro w hSw; clear hSw; go_simp; with_reducible rfl
            simp only [Act.put, List.setIfInBounds_toArray, List.set_cons_zero, List.set_cons_succ]
            refine wpAnyH_take (i := 9) (v := ?va38) (by simp; rfl) (by kernel_rfl) (by kernel_rfl) (by kernel_rfl) (fun _ _ _ h => h) (Or.inl ⟨by rfl, ?ya38⟩) hHeld ?ra38
            case ya38 => intro w hSw; clear hSw; go_simp; with_reducible rfl
            simp only [Act.put, List.setIfInBounds_toArray, List.set_cons_zero, List.set_cons_succ]
            refine wpAnyH_take (i := 10) (v := _) (by simp; rfl) (by kernel_rfl) (by kernel_rfl) (by kernel_rfl) (fun _ _ _ h => h) (yieldsIf_load_mid (by rfl) 31 (.tmp 76) rfl b1 (o1 + j * 33 + 1) rfl (U8 x.v) _ (fun W hW => HXV.out W hW) Try.underlying31 rfl (by rw [sizeV, U8_length, HXW.out.len])) hHeld ?_
            simp only [Act.put, List.setIfInBounds_toArray, List.set_cons_zero, List.set_cons_succ]
            refine wpAnyH_take (i := 13) (v := ?va39) (by simp; rfl) (by kernel_rfl) (by kernel_rfl) (by kernel_rfl) (fun _ _ _ h => h) (Or.inl ⟨by rfl, ?ya39⟩) hHeld ?ra39
            case ya39 => intro w hSw; clear hSw; go_simp; with_reducible rfl
            simp only [Act.put, List.setIfInBounds_toArray, List.set_cons_zero, List.set_cons_succ]
            refine wpAnyH_ready (rs := [11]) (by kernel_rfl) (by simp) ?_
            refine AllReadyH.cons (by simp; rfl) (fun Kc hKc => ?_) AllReadyH.nil
            go_simp
            refine (write_at A3.out O3.out (b := x.b) (v := x.v) HXW.out).mono ?_
            rintro e w4 ⟨rfl, v4, hW⟩
            have A4 : Hid (BAt w4 Q pf cf F v4 (wrS F L x.b x.v)) := hW.at'
            have O4 : Hid (Okb F (wrS F L x.b x.v)) := O3.out.wrote HXW.out
            obtain ⟨k4, g4⟩ := grow_below hW K3.out (Nat.le_refl _) GQ.out GV.out
            have K4 : Hid (Below w.heap.size w w4) := k4
            have G4 : Hid (∀ g, v4.ownBlock = some g → w.heap.size ≤ g) := g4
            rw [HR.out]
            refine hKc.out _ _ k4 (fun hHeld => ?_)
            clear hKc Kc hW k4 g4
            refine wpAnyH_take (i := 12) (v := ?va40) (by simp; rfl) (by kernel_rfl) (by kernel_rfl) (by kernel_rfl) (fun _ _ _ h => h) (Or.inl ⟨by rfl, ?ya40⟩) hHeld ?ra40
            case ya40 => intro w hSw; clear hSw; go_simp; with_reducible rfl
            simp only [Act.put, List.setIfInBounds_toArray, List.set_cons_zero, List.set_cons_succ]
            refine wpAnyH_take (i := 14) (v := ?va41) (by simp; rfl) (by kernel_rfl) (by kernel_rfl) (by kernel_rfl) (fun _ _ _ h => h) (Or.inl ⟨by rfl, ?ya41⟩) hHeld ?ra41
            case ya41 => intro w hSw; clear hSw; go_simp; with_reducible rfl
            simp only [Act.put, List.setIfInBounds_toArray, List.set_cons_zero, List.set_cons_succ]
            refine wpAnyH_done (by kernel_rfl) (NoPanic.normal ?_) _
            have hxb4 := HXB.out w4 K4.out
            clear hxb0
            go_wp2_with fail
            clear hxb4
            refine (read_at A4.out O4.out x.b).mono ?_
            rintro e w5 ⟨rfl, b5⟩
            rw [HRD.out.1, HRD.out.2, HR.out]
            obtain ⟨u5, z5, hu5, hz5, hv5, hb5⟩ := newV w5 (zs 32) (zs_len 32)
            have L5 : Hid ((Instr.alloc 31 true (.tuple #[])).run Try.prog w5 = .ok (.pointer (some ⟨w5.heap.size, 0, none⟩)) u5) := hu5
            have T5 : Hid ((Instr.storeAt 31 (.pointer (some ⟨w5.heap.size, 0, none⟩)) (.agg (U8 (zs 32)).toArray)).run Try.prog u5 = .ok () z5) := hz5
            have V5 : Hid (VAt z5 w5.heap.size (zs 32)) := hv5
            have Z5 : Hid (Below w5.heap.size w5 z5) := hb5
            clear hu5 hz5 hv5 hb5
            obtain ⟨n5, e5⟩ : ∃ n5, n5 = w5.heap.size := ⟨_, rfl⟩
            rw [← e5] at L5 T5 V5
            clear e5
            have b56 : Below w4.heap.size w4 z5.drew := below_then (below_then b5 Z5.out) (show Below z5.heap.size z5 z5.drew from below_drawn 1)
            have A6 : Hid (BAt z5.drew Q pf cf F v4 (wrS F L x.b x.v)) := A4.out.later b56
            have K6 : Hid (Below w.heap.size w z5.drew) := below_then K4.out b56
            have V6 : Hid (VAt z5.drew n5 (zs 32)) := LAt.later V5.out (show Below z5.heap.size z5 z5.drew from below_drawn 1)
            clear b5 b56 A4 K4 V5 Z5
            go_wp2_with (first | ((with_reducible refine at_ops ?_); (first | ((refine wpList_alloc_is (by rfl) 31 rfl L5.out ?_); simp only [Act.put, List.setIfInBounds_toArray, List.set_cons_zero, List.set_cons_succ]) | ((refine wpList_store_is (by rfl) 31 rfl rfl rfl T5.out ?_); simp only [Act.put]))))
            clear L5 T5
            refine wp_region_noPanic ?_
            refine wp_region_held_drew (S := fun W => Below z5.drew.heap.size z5.drew W) (by kernel_rfl) (Below.refl _ _) (fun hHeld => ?_)
            generalize z5.drew = w6 at *
            refine wpAnyH_take (i := 0) (v := ?va42) (by simp; rfl) (by kernel_rfl) (by kernel_rfl) (by kernel_rfl) (fun _ _ _ h => h) (Or.inl ⟨by rfl, ?ya42⟩) hHeld ?ra42
            case ya42 => intro w hSw; clear hSw; go_simp; with_reducible rfl
            simp only [Act.put, List.setIfInBounds_toArray, List.set_cons_zero, List.set_cons_succ]
            refine wpAnyH_take (i := 1) (v := ?va43) (by simp; rfl) (by kernel_rfl) (by kernel_rfl) (by kernel_rfl) (fun _ _ _ h => h) (Or.inl ⟨by rfl, ?ya43⟩) hHeld ?ra43
            case ya43 => intro w hSw; clear hSw; go_simp; with_reducible rfl
            simp only [Act.put, List.setIfInBounds_toArray, List.set_cons_zero, List.set_cons_succ]
            refine wpAnyH_take (i := 2) (v := undef) (by simp; rfl) (by kernel_rfl) (by kernel_rfl) (by kernel_rfl) (fun _ _ _ h => h) (Or.inr ⟨by rfl, rfl⟩) hHeld ?_
            simp only [Act.put, List.setIfInBounds_toArray, List.set_cons_zero, List.set_cons_succ]
            refine wpAnyH_take (i := 3) (v := undef) (by simp; rfl) (by kernel_rfl) (by kernel_rfl) (by kernel_rfl) (fun _ _ _ h => h) (Or.inr ⟨by rfl, rfl⟩) hHeld ?_
            simp only [Act.put, List.setIfInBounds_toArray, List.set_cons_zero, List.set_cons_succ]
            refine wpAnyH_take (i := 4) (v := undef) (by simp; rfl) (by kernel_rfl) (by kernel_rfl) (by kernel_rfl) (fun _ _ _ h => h) (Or.inr ⟨by rfl, rfl⟩) hHeld ?_
            simp only [Act.put, List.setIfInBounds_toArray, List.set_cons_zero, List.set_cons_succ]
            refine wpAnyH_take (i := 5) (v := undef) (by simp; rfl) (by kernel_rfl) (by kernel_rfl) (by kernel_rfl) (fun _ _ _ h => h) (Or.inr ⟨by rfl, rfl⟩) hHeld ?_
            simp only [Act.put, List.setIfInBounds_toArray, List.set_cons_zero, List.set_cons_succ]
            refine wpAnyH_take (i := 6) (v := undef) (by simp; rfl) (by kernel_rfl) (by kernel_rfl) (by kernel_rfl) (fun _ _ _ h => h) (Or.inr ⟨by rfl, rfl⟩) hHeld ?_
            simp only [Act.put, List.setIfInBounds_toArray, List.set_cons_zero, List.set_cons_succ]
            refine wpAnyH_take (i := 7) (v := undef) (by simp; rfl) (by kernel_rfl) (by kernel_rfl) (by kernel_rfl) (fun _ _ _ h => h) (Or.inr ⟨by rfl, rfl⟩) hHeld ?_
            simp only [Act.put, List.setIfInBounds_toArray, List.set_cons_zero, List.set_cons_succ]
            refine wpAnyH_take (i := 8) (v := undef) (by simp; rfl) (by kernel_rfl) (by kernel_rfl) (by kernel_rfl) (fun _ _ _ h => h) (Or.inr ⟨by rfl, rfl⟩) hHeld ?_
            simp only [Act.put, List.setIfInBounds_toArray, List.set_cons_zero, List.set_cons_succ]
            refine wpAnyH_take (i := 9) (v := undef) (by simp; rfl) (by kernel_rfl) (by kernel_rfl) (by kernel_rfl) (fun _ _ _ h => h) (Or.inr ⟨by rfl, rfl⟩) hHeld ?_
            simp only [Act.put, List.setIfInBounds_toArray, List.set_cons_zero, List.set_cons_succ]
            refine wpAnyH_take (i := 10) (v := undef) (by simp; rfl) (by kernel_rfl) (by kernel_rfl) (by kernel_rfl) (fun _ _ _ h => h) (Or.inr ⟨by rfl, rfl⟩) hHeld ?_
            simp only [Act.put, List.setIfInBounds_toArray, List.set_cons_zero, List.set_cons_succ]
            refine wpAnyH_take (i := 11) (v := undef) (by simp; rfl) (by kernel_rfl) (by kernel_rfl) (by kernel_rfl) (fun _ _ _ h => h) (Or.inr ⟨by rfl, rfl⟩) hHeld ?_
            simp only [Act.put, List.setIfInBounds_toArray, List.set_cons_zero, List.set_cons_succ]
            refine wpAnyH_take (i := 12) (v := undef) (by simp; rfl) (by kernel_rfl) (by kernel_rfl) (by kernel_rfl) (fun _ _ _ h => h) (Or.inr ⟨by rfl, rfl⟩) hHeld ?_
            simp only [Act.put, List.setIfInBounds_toArray, List.set_cons_zero, List.set_cons_succ]
            refine wpAnyH_take (i := 13) (v := undef) (by simp; rfl) (by kernel_rfl) (by kernel_rfl) (by kernel_rfl) (fun _ _ _ h => h) (Or.inr ⟨by rfl, rfl⟩) hHeld ?_
            simp only [Act.put, List.setIfInBounds_toArray, List.set_cons_zero, List.set_cons_succ]
            refine wpAnyH_take (i := 14) (v := undef) (by simp; rfl) (by kernel_rfl) (by kernel_rfl) (by kernel_rfl) (fun _ _ _ h => h) (Or.inr ⟨by rfl, rfl⟩) hHeld ?_
            simp only [Act.put, List.setIfInBounds_toArray, List.set_cons_zero, List.set_cons_succ]
            refine wpAnyH_take (i := 15) (v := undef) (by simp; rfl) (by kernel_rfl) (by kernel_rfl) (by kernel_rfl) (fun _ _ _ h => h) (Or.inr ⟨by rfl, rfl⟩) hHeld ?_
            simp only [Act.put, List.setIfInBounds_toArray, List.set_cons_zero, List.set_cons_succ]
            refine wpAnyH_take (i := 16) (v := undef) (by simp; rfl) (by kernel_rfl) (by kernel_rfl) (by kernel_rfl) (fun _ _ _ h => h) (Or.inr ⟨by rfl, rfl⟩) hHeld ?_
            simp only [Act.put, List.setIfInBounds_toArray, List.set_cons_zero, List.set_cons_succ]
            refine wpAnyH_take (i := 17) (v := ?va44) (by simp; rfl) (by kernel_rfl) (by kernel_rfl) (by kernel_rfl) (fun _ _ _ h => h) (Or.inl ⟨by rfl, ?ya44⟩) hHeld ?ra44
            case ya44 => intro w hSw; clear hSw; go_simp; with_reducible rfl
            simp only [Act.put, List.setIfInBounds_toArray, List.set_cons_zero, List.set_cons_succ]
            clear hHeld
            refine wpAnyH_done (by kernel_rfl) (NoPanic.normal ?_) _
            go_wp2_with fail
            go_roundw
            case rel => exact ⟨j + 1, _, _, by omega, by go_num, A6, O4, K6, G4⟩
            case measure => simp [intOf]; omega
        · by_cases hjm : j < m
          · have i2 : ¬ (j : Int) < 100 := by omega
            go_wp2_with fail
            go_meet
            case rel => exact ⟨L, vi, A, O3, K, GV⟩
          · have i1 : ¬ (j : Int) < (m : Int) := by omega
            go_wp2_with fail
            go_meet
            case rel => exact ⟨L, vi, A, O3, K, GV⟩
    case rest =>
      obtain ⟨L, vi, A, OL, K, GV⟩ := hcut
      clear A2 O2 K2 G2
      go_wp2_with fail
      refine (images_at A.out OL.out).mono ?_
      rintro e wN ⟨vl, rfl, hO, bN⟩
      have AN : Hid (BAt wN Q pf cf F vi L) := A.out.later bN
      have KN : Hid (Below w.heap.size w wN) := below_then K.out bN
      obtain ⟨pl, cl, rfl, hM, hcl, -⟩ := IOwn.in hO OL.out.wf
      have HML : Hid (MIn wN pl L.length L) := hM
      have HFN : Hid (B.IIn wN p n F) := HF.out.later KN.out
      have hfew := OL.out.few
      have hLn : L.length ≤ n := by rw [← HLF.out]; exact OL.out.len
      clear hO hM A K bN HX
      go_wp2_with fail
      refine (new_at HFN.out hnc hn HI.out).mono ?_
      rintro e w5 ⟨Qc, pc, cc, rfl, hN, -⟩
      have A5 : Hid (BAt w5 Qc pc cc F (.slice none 0 0) []) := hN.at'
      have K5 : Hid (Below wN.heap.size wN w5) := hN.below
      have GQc : Hid (wN.heap.size ≤ Qc) := hN.q
      have G5 : Hid (∀ g, (Value.slice none 0 0).ownBlock = some g → wN.heap.size ≤ g) := fun g hg => by cases hg
      clear hN GV
      have e1 : (((L.length : Nat) : Int) != (L.length : Int)) = false := by simp
      have e2 : ¬ n < L.length := by omega
      have e4 : decide (n < L.length) = false := decide_eq_false e2
      have e3 : (L.length : Int) ≤ (n : Int) := by omega
      go_wp2_with (go_at_call 12; refine (len_at (AN.out.later K5.out)).mono ?_; rintro e w' ⟨rfl, hw'⟩; rw [hw']; clear hw' w')
      clear e1 e2 e3 e4
      go_loopw [17] (fun v wr => ∃ (i : Nat) (vc : Value), i ≤ L.length ∧ v = .int .i64 i ∧ Hid (BAt wr Qc pc cc F vc (prt tu L i)) ∧ Hid (Below wN.heap.size wN wr) ∧ Hid (∀ g, vc.ownBlock = some g → wN.heap.size ≤ g)) (fun v _ => L.length - (intOf v).toNat)
      case atStart => exact ⟨0, _, Nat.zero_le _, rfl, by rw [prt_zero]; exact A5, K5, G5⟩
      case round =>
        obtain ⟨i, vc, hil, rfl, A6, K6, GV⟩ := hrel
        clear A5 K5 G5
        by_cases hlt : i < L.length
        · obtain ⟨k, hk⟩ : ∃ k, k = plk tu L.length i := ⟨_, rfl⟩
          have hkl : k < L.length := by rw [hk]; unfold plk; split <;> omega
          obtain ⟨x, hx⟩ : ∃ x, L[k]? = some x := ⟨_, List.getElem?_eq_getElem hkl⟩
          obtain ⟨g, o0, rfl, -⟩ := HML.out.cells (by omega)
          have HXW : Hid (Im.Wf x) := OL.out.wf x (List.mem_of_getElem? hx)
          have HXF : Hid (x.b ∈ F) := OL.out.ins x (List.mem_of_getElem? hx)
          have HST : Hid (pt (prt tu L i) x.b x.v = prt tu L (i + 1)) := prt_step OL.out.up (by rw [← hk]; exact hx) hlt
          have OM : Hid (Okb F (prt tu L i)) := prt_ok OL.out i
          have HLB : Hid (∀ W, Below wN.heap.size wN W → W.cell? ⟨g, o0 + k * 33, none⟩ = some (.int .i64 x.b)) := fun W hW => (HML.out.later hW).c0 hx
          have HLV : Hid (∀ W, Below wN.heap.size wN W → W.rangeAt g (o0 + k * 33 + 1) (U8 x.v)) := fun W hW kk v hkk => by
            rw [show o0 + k * 33 + 1 + kk = o0 + k * 33 + (kk + 1) by omega]
            exact (HML.out.later hW).at hx (kk + 1) v (by simpa [icells] using hkk)
          have HK : Hid (k = plk tu L.length i) := hk
          clear hk hx
          go_upto_if 145 with fail
          go_cut [18] from 146 to 150 (fun v W => v = .int .i64 (k : Int) ∧ Hid (W = wr))
          case first =>
            cases tu with
            | true =>
              have hk2 : (L.length : Int) - 1 - (i : Int) = (k : Int) := by have := HK.out; unfold plk at this; simp at this; omega
              go_wp2_with fail
              go_meet
              case rel => exact ⟨by rw [← hk2], rfl⟩
            | false =>
              have hk2 : (i : Int) = (k : Int) := by have := HK.out; unfold plk at this; simp at this; omega
              go_wp2_with fail
              go_meet
              case rel => exact ⟨by rw [← hk2], rfl⟩
          case rest =>
            obtain ⟨rfl, HW⟩ := hcut
            obtain rfl := HW.out
            clear HW
            have A3 : Hid (BAt wc.drew Qc pc cc F vc (prt tu L i)) := A6.out.later (show Below wc.heap.size wc wc.drew from below_drawn 1)
            have K3 : Hid (Below wN.heap.size wN wc.drew) := below_then K6.out (show Below wc.heap.size wc wc.drew from below_drawn 1)
            have j0 : (0 : Int) ≤ (k : Int) := by omega
            have j1 : (k : Int) < (L.length : Int) := by omega
            clear A6 K6 HK
            by_cases hi0 : 0 < i
            · obtain ⟨i1, hi1⟩ : ∃ i1, i = i1 + 1 := ⟨i - 1, by omega⟩
              obtain ⟨y, hy⟩ : ∃ y, L[i1]? = some y := ⟨_, List.getElem?_eq_getElem (by omega)⟩
              obtain ⟨z, hz⟩ : ∃ z, L[i]? = some z := ⟨_, List.getElem?_eq_getElem hlt⟩
              have hyz : y.b < z.b := by
                obtain ⟨h1, e1⟩ := List.getElem?_eq_some_iff.1 hy
                obtain ⟨h2, e2⟩ := List.getElem?_eq_some_iff.1 hz
                have := List.pairwise_iff_getElem.1 OL.out.up i1 i h1 h2 (by omega)
                rw [e1, e2] at this; exact this
              have HLB2 : Hid (∀ W, Below wN.heap.size wN W → W.cell? ⟨g, o0 + k * 33, none⟩ = some (.int .i64 x.b) ∧ W.cell? ⟨g, o0 + i1 * 33, none⟩ = some (.int .i64 y.b) ∧ W.cell? ⟨g, o0 + i * 33, none⟩ = some (.int .i64 z.b)) := fun W hW => ⟨HLB.out W hW, (HML.out.later hW).c0 hy, (HML.out.later hW).c0 hz⟩
              have hw1 : IntKind.i64.wrap ((i : Int) - 1) = (i1 : Int) := by rw [IntKind.wrap_i64]; omega
              have j2 : (0 : Int) ≤ (i1 : Int) := by omega
              have j3 : (i1 : Int) < (L.length : Int) := by omega
              have j4 : (0 : Int) ≤ (i : Int) := by omega
              have j5 : (i : Int) < (L.length : Int) := by omega
              have j6 : (0 : Int) < (i : Int) := by omega
              have j7 : ¬ z.b ≤ y.b := by omega
              have HLB := HLB2
              clear hy hz HLB2 hi1 hyz
              go_wp2_with fail
              refine wp_region_noPanic ?_
              refine wp_region_held_drew (S := fun W => Below wN.heap.size wN W) (by kernel_rfl) K3.out (fun hHeld => ?_)
              refine wpAnyH_take (i := 0) (v := ?va45) (by simp; rfl) (by kernel_rfl) (by kernel_rfl) (by kernel_rfl) (fun _ _ _ h => h) (Or.inl ⟨by rfl, ?ya45⟩) hHeld ?ra45
              case ya45 => intro w hSw; clear hSw; go_simp; with_reducible rfl
              simp only [Act.put, List.setIfInBounds_toArray, List.set_cons_zero, List.set_cons_succ]
              refine wpAnyH_take (i := 1) (v := ?va46) (by simp; rfl) (by kernel_rfl) (by kernel_rfl) (by kernel_rfl) (fun _ _ _ h => h) (Or.inl ⟨by rfl, ?ya46⟩) hHeld ?ra46
              case ya46 => intro w hSw; clear hSw; go_simp; with_reducible rfl
              simp only [Act.put, List.setIfInBounds_toArray, List.set_cons_zero, List.set_cons_succ]
              refine wpAnyH_take (i := 2) (v := ?va47) (by simp; rfl) (by kernel_rfl) (by kernel_rfl) (by kernel_rfl) (fun _ _ _ h => h) (Or.inl ⟨by rfl, ?ya47⟩) hHeld ?ra47
              case ya47 => intro w hSw; clear hSw; go_simp; with_reducible rfl
              simp only [Act.put, List.setIfInBounds_toArray, List.set_cons_zero, List.set_cons_succ]
              refine wpAnyH_take (i := 3) (v := ?va48) (by simp; rfl) (by kernel_rfl) (by kernel_rfl) (by kernel_rfl) (fun _ _ _ h => h) (Or.inl ⟨by rfl, ?ya48⟩) hHeld ?ra48
              case ya48 => intro w hSw; clear hSw; go_simp; with_reducible rfl
              simp only [Act.put, List.setIfInBounds_toArray, List.set_cons_zero, List.set_cons_succ]
              refine wpAnyH_take (i := 4) (v := ?va49) (by simp; rfl) (by kernel_rfl) (by kernel_rfl) (by kernel_rfl) (fun _ _ _ h => h) (Or.inl ⟨by rfl, ?ya49⟩) hHeld ?ra49
              case ya49 => intro w hSw; clear hSw; go_simp; with_reducible rfl
              simp only [Act.put, List.setIfInBounds_toArray, List.set_cons_zero, List.set_cons_succ]
              refine wpAnyH_take (i := 5) (v := ?va50) (by simp; rfl) (by kernel_rfl) (by kernel_rfl) (by kernel_rfl) (fun _ _ _ h => h) (Or.inl ⟨by rfl, ?ya50⟩) hHeld ?ra50
              case ya50 => intro w hSw; have z := HLB.out w hSw; clear hSw; go_simp; with_reducible rfl
              simp only [Act.put, List.setIfInBounds_toArray, List.set_cons_zero, List.set_cons_succ]
              refine wpAnyH_take (i := 6) (v := ?va51) (by simp; rfl) (by kernel_rfl) (by kernel_rfl) (by kernel_rfl) (fun _ _ _ h => h) (Or.inl ⟨by rfl, ?ya51⟩) hHeld ?ra51
              case ya51 => intro w hSw; clear hSw; go_simp; with_reducible rfl
              simp only [Act.put, List.setIfInBounds_toArray, List.set_cons_zero, List.set_cons_succ]
              refine wpAnyH_take (i := 7) (v := ?va52) (by simp; rfl) (by kernel_rfl) (by kernel_rfl) (by kernel_rfl) (fun _ _ _ h => h) (Or.inl ⟨by rfl, ?ya52⟩) hHeld ?ra52
              case ya52 => intro w hSw; clear hSw; go_simp; with_reducible rfl
              simp only [Act.put, List.setIfInBounds_toArray, List.set_cons_zero, List.set_cons_succ]
              refine wpAnyH_take (i := 8) (v := ?va53) (by simp; rfl) (by kernel_rfl) (by kernel_rfl) (by kernel_rfl) (fun _ _ _ h => h) (Or.inl ⟨by rfl, ?ya53⟩) hHeld ?ra53
              case ya53 => intro w hSw; clear hSw; go_simp; with_reducible rfl
              simp only [Act.put, List.setIfInBounds_toArray, List.set_cons_zero, List.set_cons_succ]
              refine wpAnyH_take (i := 9) (v := ?va54) (by simp; rfl) (by kernel_rfl) (by kernel_rfl) (by kernel_rfl) (fun _ _ _ h => h) (Or.inl ⟨by rfl, ?ya54⟩) hHeld ?ra54
              case ya54 => intro w hSw; clear hSw; go_simp; with_reducible rfl
              simp only [Act.put, List.setIfInBounds_toArray, List.set_cons_zero, List.set_cons_succ]
              refine wpAnyH_take (i := 10) (v := _) (by simp; rfl) (by kernel_rfl) (by kernel_rfl) (by kernel_rfl) (fun _ _ _ h => h) (yieldsIf_load_mid (by rfl) 31 (.tmp 160) rfl g (o0 + k * 33 + 1) rfl (U8 x.v) _ (fun W hW => HLV.out W hW) Try.underlying31 rfl (by rw [sizeV, U8_length, HXW.out.len])) hHeld ?_
              simp only [Act.put, List.setIfInBounds_toArray, List.set_cons_zero, List.set_cons_succ]
              refine wpAnyH_ready (rs := [11]) (by kernel_rfl) (by simp) ?_
              refine AllReadyH.cons (by simp; rfl) (fun Kc hKc => ?_) AllReadyH.nil
              go_simp
              refine (write_at A3.out OM.out (b := x.b) (v := x.v) HXW.out).mono ?_
              rintro e w4 ⟨rfl, v4, hW⟩
              have A4 : Hid (BAt w4 Qc pc cc F v4 (prt tu L (i + 1))) := by have := hW.at'; rw [wr_in HXF.out, HST.out] at this; exact this
              obtain ⟨k4, g4⟩ := grow_below hW K3.out (Nat.le_refl _) GQc.out GV.out
              have K4 : Hid (Below wN.heap.size wN w4) := k4
              have G4 : Hid (∀ g, v4.ownBlock = some g → wN.heap.size ≤ g) := g4
              rw [refS_in HXF.out]
              refine hKc.out _ _ k4 (fun hHeld => ?_)
              clear hKc Kc hW k4 g4
              refine wpAnyH_take (i := 12) (v := ?va55) (by simp; rfl) (by kernel_rfl) (by kernel_rfl) (by kernel_rfl) (fun _ _ _ h => h) (Or.inl ⟨by rfl, ?ya55⟩) hHeld ?ra55
              case ya55 => intro w hSw; clear hSw; go_simp; with_reducible rfl
              simp only [Act.put, List.setIfInBounds_toArray, List.set_cons_zero, List.set_cons_succ]
              refine wpAnyH_take (i := 13) (v := ?va56) (by simp; rfl) (by kernel_rfl) (by kernel_rfl) (by kernel_rfl) (fun _ _ _ h => h) (Or.inl ⟨by rfl, ?ya56⟩) hHeld ?ra56
              case ya56 => intro w hSw; clear hSw; go_simp; with_reducible rfl
              simp only [Act.put, List.setIfInBounds_toArray, List.set_cons_zero, List.set_cons_succ]
              refine wpAnyH_take (i := 14) (v := ?va57) (by simp; rfl) (by kernel_rfl) (by kernel_rfl) (by kernel_rfl) (fun _ _ _ h => h) (Or.inl ⟨by rfl, ?ya57⟩) hHeld ?ra57
              case ya57 => intro w hSw; clear hSw; go_simp; with_reducible rfl
              simp only [Act.put, List.setIfInBounds_toArray, List.set_cons_zero, List.set_cons_succ]
              refine wpAnyH_take (i := 15) (v := ?va58) (by simp; rfl) (by kernel_rfl) (by kernel_rfl) (by kernel_rfl) (fun _ _ _ h => h) (Or.inl ⟨by rfl, ?ya58⟩) hHeld ?ra58
              case ya58 => intro w hSw; clear hSw; go_simp; with_reducible rfl
              simp only [Act.put, List.setIfInBounds_toArray, List.set_cons_zero, List.set_cons_succ]
              refine wpAnyH_take (i := 16) (v := ?va59) (by simp; rfl) (by kernel_rfl) (by kernel_rfl) (by kernel_rfl) (fun _ _ _ h => h) (Or.inl ⟨by rfl, ?ya59⟩) hHeld ?ra59
              case ya59 => intro w hSw; clear hSw; go_simp; with_reducible rfl
              simp only [Act.put, List.setIfInBounds_toArray, List.set_cons_zero, List.set_cons_succ]
              refine wpAnyH_take (i := 17) (v := ?va60) (by simp; rfl) (by kernel_rfl) (by kernel_rfl) (by kernel_rfl) (fun _ _ _ h => h) (Or.inl ⟨by rfl, ?ya60⟩) hHeld ?ra60
              case ya60 => intro w hSw; clear hSw; go_simp; with_reducible rfl
              simp only [Act.put, List.setIfInBounds_toArray, List.set_cons_zero, List.set_cons_succ]
              refine wpAnyH_take (i := 18) (v := ?va61) (by simp; rfl) (by kernel_rfl) (by kernel_rfl) (by kernel_rfl) (fun _ _ _ h => h) (Or.inl ⟨by rfl, ?ya61⟩) hHeld ?ra61
              case ya61 => intro w hSw; clear hSw; go_simp; with_reducible rfl
              simp only [Act.put, List.setIfInBounds_toArray, List.set_cons_zero, List.set_cons_succ]
              refine wpAnyH_take (i := 19) (v := ?va62) (by simp; rfl) (by kernel_rfl) (by kernel_rfl) (by kernel_rfl) (fun _ _ _ h => h) (Or.inl ⟨by rfl, ?ya62⟩) hHeld ?ra62
              case ya62 => intro w hSw; clear hSw; go_simp; with_reducible rfl
              simp only [Act.put, List.setIfInBounds_toArray, List.set_cons_zero, List.set_cons_succ]
              refine wpAnyH_take (i := 20) (v := ?va63) (by simp; rfl) (by kernel_rfl) (by kernel_rfl) (by kernel_rfl) (fun _ _ _ h => h) (Or.inl ⟨by rfl, ?ya63⟩) hHeld ?ra63
              case ya63 => intro w hSw; clear hSw; go_simp; with_reducible rfl
              simp only [Act.put, List.setIfInBounds_toArray, List.set_cons_zero, List.set_cons_succ]
              refine wpAnyH_take (i := 21) (v := ?va64) (by simp; rfl) (by kernel_rfl) (by kernel_rfl) (by kernel_rfl) (fun _ _ _ h => h) (Or.inl ⟨by rfl, ?ya64⟩) hHeld ?ra64
              case ya64 => intro w hSw; clear hSw; go_simp; with_reducible rfl
              simp only [Act.put, List.setIfInBounds_toArray, List.set_cons_zero, List.set_cons_succ]
              refine wpAnyH_take (i := 22) (v := ?va65) (by simp; rfl) (by kernel_rfl) (by kernel_rfl) (by kernel_rfl) (fun _ _ _ h => h) (Or.inl ⟨by rfl, ?ya65⟩) hHeld ?ra65
              case ya65 => intro w hSw; have z := HLB.out w hSw; clear hSw; go_simp; with_reducible rfl
              simp only [Act.put, List.setIfInBounds_toArray, List.set_cons_zero, List.set_cons_succ]
              refine wpAnyH_take (i := 23) (v := ?va66) (by simp; rfl) (by kernel_rfl) (by kernel_rfl) (by kernel_rfl) (fun _ _ _ h => h) (Or.inl ⟨by rfl, ?ya66⟩) hHeld ?ra66
              case ya66 => intro w hSw; clear hSw; go_simp; with_reducible rfl
              simp only [Act.put, List.setIfInBounds_toArray, List.set_cons_zero, List.set_cons_succ]
              refine wpAnyH_take (i := 24) (v := ?va67) (by simp; rfl) (by kernel_rfl) (by kernel_rfl) (by kernel_rfl) (fun _ _ _ h => h) (Or.inl ⟨by rfl, ?ya67⟩) hHeld ?ra67
              case ya67 => intro w hSw; clear hSw; go_simp; with_reducible rfl
              simp only [Act.put, List.setIfInBounds_toArray, List.set_cons_zero, List.set_cons_succ]
              refine wpAnyH_take (i := 25) (v := ?va68) (by simp; rfl) (by kernel_rfl) (by kernel_rfl) (by kernel_rfl) (fun _ _ _ h => h) (Or.inl ⟨by rfl, ?ya68⟩) hHeld ?ra68
              case ya68 => intro w hSw; clear hSw; go_simp; with_reducible rfl
              simp only [Act.put, List.setIfInBounds_toArray, List.set_cons_zero, List.set_cons_succ]
              refine wpAnyH_take (i := 26) (v := ?va69) (by simp; rfl) (by kernel_rfl) (by kernel_rfl) (by kernel_rfl) (fun _ _ _ h => h) (Or.inl ⟨by rfl, ?ya69⟩) hHeld ?ra69
              case ya69 => intro w hSw; clear hSw; go_simp; with_reducible rfl
              simp only [Act.put, List.setIfInBounds_toArray, List.set_cons_zero, List.set_cons_succ]
              refine wpAnyH_take (i := 27) (v := ?va70) (by simp; rfl) (by kernel_rfl) (by kernel_rfl) (by kernel_rfl) (fun _ _ _ h => h) (Or.inl ⟨by rfl, ?ya70⟩) hHeld ?ra70
              case ya70 => intro w hSw; have z := HLB.out w hSw; clear hSw; go_simp; with_reducible rfl
              simp only [Act.put, List.setIfInBounds_toArray, List.set_cons_zero, List.set_cons_succ]
              refine wpAnyH_take (i := 28) (v := ?va71) (by simp; rfl) (by kernel_rfl) (by kernel_rfl) (by kernel_rfl) (fun _ _ _ h => h) (Or.inl ⟨by rfl, ?ya71⟩) hHeld ?ra71
              case ya71 => intro w hSw; clear hSw; go_simp; with_reducible rfl
              simp only [Act.put, List.setIfInBounds_toArray, List.set_cons_zero, List.set_cons_succ]
              refine wpAnyH_take (i := 29) (v := ?va72) (by simp; rfl) (by kernel_rfl) (by kernel_rfl) (by kernel_rfl) (fun _ _ _ h => h) (Or.inl ⟨by rfl, ?ya72⟩) hHeld ?ra72
              case ya72 => intro w hSw; clear hSw; go_simp; with_reducible rfl
              simp only [Act.put, List.setIfInBounds_toArray, List.set_cons_zero, List.set_cons_succ]
              refine wpAnyH_take (i := 30) (v := ?va73) (by simp; rfl) (by kernel_rfl) (by kernel_rfl) (by kernel_rfl) (fun _ _ _ h => h) (Or.inl ⟨by rfl, ?ya73⟩) hHeld ?ra73
              case ya73 => intro w hSw; clear hSw; go_simp; with_reducible rfl
              simp only [Act.put, List.setIfInBounds_toArray, List.set_cons_zero, List.set_cons_succ]
              refine wpAnyH_done (by kernel_rfl) (NoPanic.normal ?_) _
              go_wp2_with fail
              go_roundw
              case rel => exact ⟨i + 1, _, by omega, by go_num, A4, K4, G4⟩
              case measure => simp [intOf]; omega
            · have j6 : ¬ (0 : Int) < (i : Int) := by omega
              go_wp2_with fail
              refine wp_region_noPanic ?_
              refine wp_region_held_drew (S := fun W => Below wN.heap.size wN W) (by kernel_rfl) K3.out (fun hHeld => ?_)
              refine wpAnyH_take (i := 0) (v := ?va74) (by simp; rfl) (by kernel_rfl) (by kernel_rfl) (by kernel_rfl) (fun _ _ _ h => h) (Or.inl ⟨by rfl, ?ya74⟩) hHeld ?ra74
              case ya74 => intro w hSw; clear hSw; go_simp; with_reducible rfl
              simp only [Act.put, List.setIfInBounds_toArray, List.set_cons_zero, List.set_cons_succ]
              refine wpAnyH_take (i := 1) (v := ?va75) (by simp; rfl) (by kernel_rfl) (by kernel_rfl) (by kernel_rfl) (fun _ _ _ h => h) (Or.inl ⟨by rfl, ?ya75⟩) hHeld ?ra75
              case ya75 => intro w hSw; clear hSw; go_simp; with_reducible rfl
              simp only [Act.put, List.setIfInBounds_toArray, List.set_cons_zero, List.set_cons_succ]
              refine wpAnyH_take (i := 2) (v := ?va76) (by simp; rfl) (by kernel_rfl) (by kernel_rfl) (by kernel_rfl) (fun _ _ _ h => h) (Or.inl ⟨by rfl, ?ya76⟩) hHeld ?ra76
              case ya76 => intro w hSw; clear hSw; go_simp; with_reducible rfl
              simp only [Act.put, List.setIfInBounds_toArray, List.set_cons_zero, List.set_cons_succ]
              refine wpAnyH_take (i := 3) (v := ?va77) (by simp; rfl) (by kernel_rfl) (by kernel_rfl) (by kernel_rfl) (fun _ _ _ h => h) (Or.inl ⟨by rfl, ?ya77⟩) hHeld ?ra77
              case ya77 => intro w hSw; clear hSw; go_simp; with_reducible rfl
              simp only [Act.put, List.setIfInBounds_toArray, List.set_cons_zero, List.set_cons_succ]
              refine wpAnyH_take (i := 4) (v := ?va78) (by simp; rfl) (by kernel_rfl) (by kernel_rfl) (by kernel_rfl) (fun _ _ _ h => h) (Or.inl ⟨by rfl, ?ya78⟩) hHeld ?ra78
              case ya78 => intro w hSw; clear hSw; go_simp; with_reducible rfl
              simp only [Act.put, List.setIfInBounds_toArray, List.set_cons_zero, List.set_cons_succ]
              refine wpAnyH_take (i := 5) (v := ?va79) (by simp; rfl) (by kernel_rfl) (by kernel_rfl) (by kernel_rfl) (fun _ _ _ h => h) (Or.inl ⟨by rfl, ?ya79⟩) hHeld ?ra79
              case ya79 => intro w hSw; have z := HLB.out w hSw; clear hSw; go_simp; with_reducible rfl
              simp only [Act.put, List.setIfInBounds_toArray, List.set_cons_zero, List.set_cons_succ]
              refine wpAnyH_take (i := 6) (v := ?va80) (by simp; rfl) (by kernel_rfl) (by kernel_rfl) (by kernel_rfl) (fun _ _ _ h => h) (Or.inl ⟨by rfl, ?ya80⟩) hHeld ?ra80
              case ya80 => intro w hSw; clear hSw; go_simp; with_reducible rfl
              simp only [Act.put, List.setIfInBounds_toArray, List.set_cons_zero, List.set_cons_succ]
              refine wpAnyH_take (i := 7) (v := ?va81) (by simp; rfl) (by kernel_rfl) (by kernel_rfl) (by kernel_rfl) (fun _ _ _ h => h) (Or.inl ⟨by rfl, ?ya81⟩) hHeld ?ra81
              case ya81 => intro w hSw; clear hSw; go_simp; with_reducible rfl
              simp only [Act.put, List.setIfInBounds_toArray, List.set_cons_zero, List.set_cons_succ]
              refine wpAnyH_take (i := 8) (v := ?va82) (by simp; rfl) (by kernel_rfl) (by kernel_rfl) (by kernel_rfl) (fun _ _ _ h => h) (Or.inl ⟨by rfl, ?ya82⟩) hHeld ?ra82
              case ya82 => intro w hSw; clear hSw; go_simp; with_reducible rfl
              simp only [Act.put, List.setIfInBounds_toArray, List.set_cons_zero, List.set_cons_succ]
              refine wpAnyH_take (i := 9) (v := ?va83) (by simp; rfl) (by kernel_rfl) (by kernel_rfl) (by kernel_rfl) (fun _ _ _ h => h) (Or.inl ⟨by rfl, ?ya83⟩) hHeld ?ra83
              case ya83 => intro w hSw; clear hSw; go_simp; with_reducible rfl
              simp only [Act.put, List.setIfInBounds_toArray, List.set_cons_zero, List.set_cons_succ]
              refine wpAnyH_take (i := 10) (v := _) (by simp; rfl) (by kernel_rfl) (by kernel_rfl) (by kernel_rfl) (fun _ _ _ h => h) (yieldsIf_load_mid (by rfl) 31 (.tmp 160) rfl g (o0 + k * 33 + 1) rfl (U8 x.v) _ (fun W hW => HLV.out W hW) Try.underlying31 rfl (by rw [sizeV, U8_length, HXW.out.len])) hHeld ?_
              simp only [Act.put, List.setIfInBounds_toArray, List.set_cons_zero, List.set_cons_succ]
              refine wpAnyH_ready (rs := [11]) (by kernel_rfl) (by simp) ?_
              refine AllReadyH.cons (by simp; rfl) (fun Kc hKc => ?_) AllReadyH.nil
              go_simp
              refine (write_at A3.out OM.out (b := x.b) (v := x.v) HXW.out).mono ?_
              rintro e w4 ⟨rfl, v4, hW⟩
              have A4 : Hid (BAt w4 Qc pc cc F v4 (prt tu L (i + 1))) := by have := hW.at'; rw [wr_in HXF.out, HST.out] at this; exact this
              obtain ⟨k4, g4⟩ := grow_below hW K3.out (Nat.le_refl _) GQc.out GV.out
              have K4 : Hid (Below wN.heap.size wN w4) := k4
              have G4 : Hid (∀ g, v4.ownBlock = some g → wN.heap.size ≤ g) := g4
              rw [refS_in HXF.out]
              refine hKc.out _ _ k4 (fun hHeld => ?_)
              clear hKc Kc hW k4 g4
              refine wpAnyH_take (i := 12) (v := ?va84) (by simp; rfl) (by kernel_rfl) (by kernel_rfl) (by kernel_rfl) (fun _ _ _ h => h) (Or.inl ⟨by rfl, ?ya84⟩) hHeld ?ra84
              case ya84 => intro w hSw; clear hSw; go_simp; with_reducible rfl
              simp only [Act.put, List.setIfInBounds_toArray, List.set_cons_zero, List.set_cons_succ]
              refine wpAnyH_take (i := 13) (v := ?va85) (by simp; rfl) (by kernel_rfl) (by kernel_rfl) (by kernel_rfl) (fun _ _ _ h => h) (Or.inl ⟨by rfl, ?ya85⟩) hHeld ?ra85
              case ya85 => intro w hSw; clear hSw; go_simp; with_reducible rfl
              simp only [Act.put, List.setIfInBounds_toArray, List.set_cons_zero, List.set_cons_succ]
              refine wpAnyH_take (i := 14) (v := ?va86) (by simp; rfl) (by kernel_rfl) (by kernel_rfl) (by kernel_rfl) (fun _ _ _ h => h) (Or.inl ⟨by rfl, ?ya86⟩) hHeld ?ra86
              case ya86 => intro w hSw; clear hSw; go_simp; with_reducible rfl
              simp only [Act.put, List.setIfInBounds_toArray, List.set_cons_zero, List.set_cons_succ]
              refine wpAnyH_take (i := 15) (v := ?va87) (by simp; rfl) (by kernel_rfl) (by kernel_rfl) (by kernel_rfl) (fun _ _ _ h => h) (Or.inl ⟨by rfl, ?ya87⟩) hHeld ?ra87
              case ya87 => intro w hSw; clear hSw; go_simp; with_reducible rfl
              simp only [Act.put, List.setIfInBounds_toArray, List.set_cons_zero, List.set_cons_succ]
              refine wpAnyH_take (i := 16) (v := ?va88) (by simp; rfl) (by kernel_rfl) (by kernel_rfl) (by kernel_rfl) (fun _ _ _ h => h) (Or.inl ⟨by rfl, ?ya88⟩) hHeld ?ra88
              case ya88 => intro w hSw; clear hSw; go_simp; with_reducible rfl
              simp only [Act.put, List.setIfInBounds_toArray, List.set_cons_zero, List.set_cons_succ]
              refine wpAnyH_take (i := 17) (v := undef) (by simp; rfl) (by kernel_rfl) (by kernel_rfl) (by kernel_rfl) (fun _ _ _ h => h) (Or.inr ⟨by rfl, rfl⟩) hHeld ?_
              simp only [Act.put, List.setIfInBounds_toArray, List.set_cons_zero, List.set_cons_succ]
              refine wpAnyH_take (i := 18) (v := undef) (by simp; rfl) (by kernel_rfl) (by kernel_rfl) (by kernel_rfl) (fun _ _ _ h => h) (Or.inr ⟨by rfl, rfl⟩) hHeld ?_
              simp only [Act.put, List.setIfInBounds_toArray, List.set_cons_zero, List.set_cons_succ]
              refine wpAnyH_take (i := 19) (v := undef) (by simp; rfl) (by kernel_rfl) (by kernel_rfl) (by kernel_rfl) (fun _ _ _ h => h) (Or.inr ⟨by rfl, rfl⟩) hHeld ?_
              simp only [Act.put, List.setIfInBounds_toArray, List.set_cons_zero, List.set_cons_succ]
              refine wpAnyH_take (i := 20) (v := undef) (by simp; rfl) (by kernel_rfl) (by kernel_rfl) (by kernel_rfl) (fun _ _ _ h => h) (Or.inr ⟨by rfl, rfl⟩) hHeld ?_
              simp only [Act.put, List.setIfInBounds_toArray, List.set_cons_zero, List.set_cons_succ]
              refine wpAnyH_take (i := 21) (v := undef) (by simp; rfl) (by kernel_rfl) (by kernel_rfl) (by kernel_rfl) (fun _ _ _ h => h) (Or.inr ⟨by rfl, rfl⟩) hHeld ?_
              simp only [Act.put, List.setIfInBounds_toArray, List.set_cons_zero, List.set_cons_succ]
              refine wpAnyH_take (i := 22) (v := undef) (by simp; rfl) (by kernel_rfl) (by kernel_rfl) (by kernel_rfl) (fun _ _ _ h => h) (Or.inr ⟨by rfl, rfl⟩) hHeld ?_
              simp only [Act.put, List.setIfInBounds_toArray, List.set_cons_zero, List.set_cons_succ]
              refine wpAnyH_take (i := 23) (v := undef) (by simp; rfl) (by kernel_rfl) (by kernel_rfl) (by kernel_rfl) (fun _ _ _ h => h) (Or.inr ⟨by rfl, rfl⟩) hHeld ?_
              simp only [Act.put, List.setIfInBounds_toArray, List.set_cons_zero, List.set_cons_succ]
              refine wpAnyH_take (i := 24) (v := undef) (by simp; rfl) (by kernel_rfl) (by kernel_rfl) (by kernel_rfl) (fun _ _ _ h => h) (Or.inr ⟨by rfl, rfl⟩) hHeld ?_
              simp only [Act.put, List.setIfInBounds_toArray, List.set_cons_zero, List.set_cons_succ]
              refine wpAnyH_take (i := 25) (v := undef) (by simp; rfl) (by kernel_rfl) (by kernel_rfl) (by kernel_rfl) (fun _ _ _ h => h) (Or.inr ⟨by rfl, rfl⟩) hHeld ?_
              simp only [Act.put, List.setIfInBounds_toArray, List.set_cons_zero, List.set_cons_succ]
              refine wpAnyH_take (i := 26) (v := undef) (by simp; rfl) (by kernel_rfl) (by kernel_rfl) (by kernel_rfl) (fun _ _ _ h => h) (Or.inr ⟨by rfl, rfl⟩) hHeld ?_
              simp only [Act.put, List.setIfInBounds_toArray, List.set_cons_zero, List.set_cons_succ]
              refine wpAnyH_take (i := 27) (v := undef) (by simp; rfl) (by kernel_rfl) (by kernel_rfl) (by kernel_rfl) (fun _ _ _ h => h) (Or.inr ⟨by rfl, rfl⟩) hHeld ?_
              simp only [Act.put, List.setIfInBounds_toArray, List.set_cons_zero, List.set_cons_succ]
              refine wpAnyH_take (i := 28) (v := undef) (by simp; rfl) (by kernel_rfl) (by kernel_rfl) (by kernel_rfl) (fun _ _ _ h => h) (Or.inr ⟨by rfl, rfl⟩) hHeld ?_
              simp only [Act.put, List.setIfInBounds_toArray, List.set_cons_zero, List.set_cons_succ]
              refine wpAnyH_take (i := 29) (v := ?va89) (by simp; rfl) (by kernel_rfl) (by kernel_rfl) (by kernel_rfl) (fun _ _ _ h => h) (Or.inl ⟨by rfl, ?ya89⟩) hHeld ?ra89
              case ya89 => intro w hSw; clear hSw; go_simp; with_reducible rfl
              simp only [Act.put, List.setIfInBounds_toArray, List.set_cons_zero, List.set_cons_succ]
              refine wpAnyH_take (i := 30) (v := ?va90) (by simp; rfl) (by kernel_rfl) (by kernel_rfl) (by kernel_rfl) (fun _ _ _ h => h) (Or.inl ⟨by rfl, ?ya90⟩) hHeld ?ra90
              case ya90 => intro w hSw; clear hSw; go_simp; with_reducible rfl
              simp only [Act.put, List.setIfInBounds_toArray, List.set_cons_zero, List.set_cons_succ]
              refine wpAnyH_done (by kernel_rfl) (NoPanic.normal ?_) _
              go_wp2_with fail
              go_roundw
              case rel => exact ⟨i + 1, _, by omega, by go_num, A4, K4, G4⟩
              case measure => simp [intOf]; omega
        · obtain rfl : i = L.length := by omega
          have A7 : BAt wr Qc pc cc F vc L := by have := A6.out; rw [prt_all] at this; exact this
          have hnl : ¬ (L.length : Int) < (L.length : Int) := by omega
          have HA7 : Hid (BAt wr Qc pc cc F vc L) := A7
          clear A7 A6 GV hil hlt
          go_wp2_with fail
          refine (images_at HA7.out OL.out).mono ?_
          rintro e w8 ⟨v8, rfl, hO, b8⟩
          obtain ⟨p8, c8, rfl, hM, -, -⟩ := IOwn.in hO OL.out.wf
          have HM8 : Hid (MIn w8 p8 L.length L) := hM
          have HML8 : Hid (MIn w8 pl L.length L) := (HML.out.later K6.out).later b8
          have A8 : Hid (BAt w8 Qc pc cc F vc L) := HA7.out.later b8
          have K8 : Hid (Below wN.heap.size wN w8) := below_then K6.out b8
          clear hO hM b8 HA7 K6 hnl
          go_wp2_with fail
          refine (sameM_eq p8 pl L.length c8 cl L w8 HM8.out HML8.out (by omega)).mono ?_
          rintro e w9 ⟨rfl, b9⟩
          have A9 : Hid (BAt w9 Qc pc cc F vc L) := A8.out.later b9
          have K9 : Hid (Below wN.heap.size wN w9) := below_then K8.out b9
          clear b9 A8 K8 HM8 HML8
          go_wp2_with fail
          go_loopw [19] (fun v wr => ∃ (i : Nat), i ≤ n ∧ v = .int .i64 i ∧ Hid (BAt wr Qc pc cc F vc L) ∧ Hid (Below wN.heap.size wN wr)) (fun v _ => n - (intOf v).toNat)
          case atStart => exact ⟨0, Nat.zero_le _, rfl, A9, K9⟩
          case round =>
            obtain ⟨i, hin, rfl, Aa, Ka⟩ := hrel
            clear A9 K9
            by_cases hlt : i < n
            · obtain ⟨f0, fo, rfl, hfc⟩ := (HFN.out.later Ka.out).cells (by omega)
              have hf := hfc i hlt
              have Ab : Hid (BAt wr Q pf cf F vi L) := AN.out.later Ka.out
              clear hfc
              obtain ⟨f, HGF0⟩ : ∃ f, F.getD i 0 = f := ⟨_, rfl⟩
              have HGF : Hid (F.getD i 0 = f) := HGF0
              rw [HGF0] at hf
              clear HGF0
              go_wp2_with fail
              clear hf
              refine (read_at Ab.out OL.out f).mono ?_
              rintro e wa ⟨rfl, ba⟩
              have HVL : Hid ((rdV F L f).length = 32) := rdV_len OL.out.wf f
              obtain ⟨ua, za, hua, hza, hva, hba⟩ := newV wa (rdV F L f) HVL.out
              have La : Hid ((Instr.alloc 31 true (.tuple #[])).run Try.prog wa = .ok (.pointer (some ⟨wa.heap.size, 0, none⟩)) ua) := hua
              have Ta : Hid ((Instr.storeAt 31 (.pointer (some ⟨wa.heap.size, 0, none⟩)) (.agg (U8 (rdV F L f)).toArray)).run Try.prog ua = .ok () za) := hza
              have Va : Hid (VAt za wa.heap.size (rdV F L f)) := hva
              have Za : Hid (Below wa.heap.size wa za) := hba
              clear hua hza hva hba
              obtain ⟨na, ea⟩ : ∃ na, na = wa.heap.size := ⟨_, rfl⟩
              rw [← ea] at La Ta Va
              clear ea
              have Ac : Hid (BAt za Qc pc cc F vc L) := (Aa.out.later ba).later Za.out
              have Kc' : Hid (Below wN.heap.size wN za) := below_then (below_then Ka.out ba) Za.out
              have hf2 : za.cell? ⟨f0, fo + i, none⟩ = some (.int .i64 f) := by
                have h1 := ((HFN.out.later Ka.out).later (below_then ba Za.out)).cells (by omega)
                obtain ⟨f1, f2, e, hc⟩ := h1
                cases e
                rw [hc i hlt, HGF.out]
              clear ba Za Ab Aa Ka
              go_wp2_with (first | ((with_reducible refine at_ops ?_); (first | ((refine wpList_alloc_is (by rfl) 31 rfl La.out ?_); simp only [Act.put, List.setIfInBounds_toArray, List.set_cons_zero, List.set_cons_succ]) | ((refine wpList_store_is (by rfl) 31 rfl rfl rfl Ta.out ?_); simp only [Act.put]))))
              clear hf2 La Ta
              refine (read_at Ac.out OL.out f).mono ?_
              rintro e wb ⟨rfl, bb⟩
              obtain ⟨ub, zb, hub, hzb, hvb, hbb⟩ := newV wb (rdV F L f) HVL.out
              have Lb : Hid ((Instr.alloc 31 true (.tuple #[])).run Try.prog wb = .ok (.pointer (some ⟨wb.heap.size, 0, none⟩)) ub) := hub
              have Tb : Hid ((Instr.storeAt 31 (.pointer (some ⟨wb.heap.size, 0, none⟩)) (.agg (U8 (rdV F L f)).toArray)).run Try.prog ub = .ok () zb) := hzb
              have Vb : Hid (VAt zb wb.heap.size (rdV F L f)) := hvb
              have Zb : Hid (Below wb.heap.size wb zb) := hbb
              clear hub hzb hvb hbb
              obtain ⟨nb, eb⟩ : ∃ nb, nb = wb.heap.size := ⟨_, rfl⟩
              rw [← eb] at Lb Tb Vb
              clear eb
              have Ad : Hid (BAt zb Qc pc cc F vc L) := (Ac.out.later bb).later Zb.out
              have Kd : Hid (Below wN.heap.size wN zb) := below_then (below_then Kc'.out bb) Zb.out
              have Wa : Hid ((Instr.loadAt 31 (.pointer (some ⟨na, 0, none⟩))).run Try.prog zb = .ok (.agg (U8 (rdV F L f)).toArray) zb) := VAt.load (LAt.later (LAt.later Va.out bb) Zb.out) HVL.out
              have Wb : Hid ((Instr.loadAt 31 (.pointer (some ⟨nb, 0, none⟩))).run Try.prog zb = .ok (.agg (U8 (rdV F L f)).toArray) zb) := VAt.load Vb.out HVL.out
              have QE : Hid (∀ w, (binOp .neq 31 (.agg (U8 (rdV F L f)).toArray) (.agg (U8 (rdV F L f)).toArray)).run Try.prog w = .ok (.bool false) w) := fun w => by rw [neqV w _ _ HVL.out HVL.out, decide_eq_true rfl]; rfl
              have q1 : (rdB F L f != rdB F L f) = false := by simp
              generalize rdV F L f = rv at *
              generalize rdB F L f = rb at *
              clear bb Zb Ac Kc'
              go_wp2_with (first | ((with_reducible refine at_ops ?_); (first | ((refine wpList_alloc_is (by rfl) 31 rfl Lb.out ?_); simp only [Act.put, List.setIfInBounds_toArray, List.set_cons_zero, List.set_cons_succ]) | ((refine wpList_store_is (by rfl) 31 rfl rfl rfl Tb.out ?_); simp only [Act.put]))) | ((with_reducible refine at_ops ?_); (first | (refine wpList_load_is (by rfl) 31 rfl rfl Wa.out ?_) | (refine wpList_load_is (by rfl) 31 rfl rfl Wb.out ?_) | (refine wpList_neq_is (by rfl) 31 rfl rfl rfl eqgV (QE.out _) ?_)); simp only [Act.put, List.setIfInBounds_toArray, List.set_cons_zero, List.set_cons_succ]))
              go_roundw
              case rel => exact ⟨i + 1, by omega, by go_num, Ad, Kd⟩
              case measure => simp [intOf]; omega
            · have hnl : ¬ (i : Int) < (n : Int) := by omega
              go_wp2_with fail
              go_ret
              exact ⟨rfl, below_then KN.out Ka.out⟩
end Go.Proofs.Ythgkdpniaednaaa
