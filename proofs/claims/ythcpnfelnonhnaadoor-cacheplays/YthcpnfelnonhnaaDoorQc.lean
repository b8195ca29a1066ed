/-
  Layer 17: fixed: calls whose answers the document fixes.
-/
import Derived.Test.YthcpnfelnonhnaaDoorQb
import Derived.Test.YthcpnfelnonhnaaDoorPg
namespace Go.Proofs.YthcpnfelnonhnaaDoor
open Go.RowKit

def v9 : List Int := 9 :: zs 31
def x9 : En := ⟨2, v9, 7⟩
def i9 : Im := ⟨2, v9⟩
theorem v9_len : v9.length = 32 := rfl
theorem v9_bytes : Bytes v9 := fun x hx => by
  rcases List.mem_cons.1 hx with rfl | hx
  · omega
  · exact zs_bytes 31 x hx
theorem i9_wf : i9.Wf := ⟨by constructor <;> decide, rfl, v9_bytes⟩
theorem x9_wf : x9.Wf := ⟨by constructor <;> decide, rfl, v9_bytes, by decide⟩
theorem put9 : putE 3 0 [i9] 7 = 0 ∧ putL 3 [] 0 [i9] 7 = [x9] ∧ putX 3 0 [i9] 7 = 8 := ⟨rfl, rfl, rfl⟩
theorem okc9 : Okc 3 [x9] 8 := ⟨by decide, by decide, List.pairwise_singleton _ _, fun x hx => by rw [List.mem_singleton.1 hx]; decide, fun x hx => by rw [List.mem_singleton.1 hx]; exact x9_wf, by decide, by decide⟩
theorem get9 : getV [x9] 2 = x9 ∧ getB [x9] 2 = true := ⟨rfl, rfl⟩
theorem drp9 : drps [x9] [x9] = [] ∧ drpsN [x9] [x9] = 1 := ⟨rfl, rfl⟩
theorem build9 (w : World) : (Instr.build 52 #[(0, .int .u8 9)]).run Tryd.prog w = .ok (.agg (U8 v9).toArray) w := run_build w 52 _ _ (by kernel_rfl)
theorem newV (w : World) (v : List Int) (hv : v.length = 32) : ∃ u z, (Instr.alloc 52 true (.tuple #[])).run Tryd.prog w = .ok (.pointer (some ⟨w.heap.size, 0, none⟩)) u ∧ (Instr.storeAt 52 (.pointer (some ⟨w.heap.size, 0, none⟩)) (.agg (U8 v).toArray)).run Tryd.prog u = .ok () z ∧ VAt z w.heap.size v ∧ Below w.heap.size w z ∧ z.heap.size = w.heap.size + 1 := by
  refine ⟨_, _, allocV w, VAt.store (LAt.new _ _ _) (zs_len 32) hv, ?_, ?_, ?_⟩
  · exact LAt.stored (LAt.new 52 w (U8 (zs 32))) _
  · exact below_setRow (below_alloc w _) (Nat.le_refl _) _
  · simp [World.setRow]
theorem newE (w : World) (x : En) (hx : x.v.length = 32) : ∃ u z, (Instr.alloc 57 true (.tuple #[])).run Tryd.prog w = .ok (.pointer (some ⟨w.heap.size, 0, none⟩)) u ∧ (Instr.storeAt 57 (.pointer (some ⟨w.heap.size, 0, none⟩)) (.agg (ecells x).toArray)).run Tryd.prog u = .ok () z ∧ LAt 57 z w.heap.size (ecells x) ∧ Below w.heap.size w z ∧ z.heap.size = w.heap.size + 1 :=
  ⟨_, _, allocE etC w, store_newE etC w x hx, LAt.new _ _ _, below_alloc w _, by simp⟩
theorem one_min {W : World} {g : Nat} {x : Im} {te : TypeId} (h : LAt te W g (icells x)) (hx : x.Wf) : MIn W (some ⟨g, 0, none⟩) 1 [x] := ⟨rfl, fun y hy => by rw [List.mem_singleton.1 hy]; exact hx, fun _ => ⟨g, 0, rfl, fun j u hj => by rw [Nat.zero_add, LAt.cell h]; simpa [IC] using hj⟩⟩
set_option maxHeartbeats 2000000 in
set_option maxRecDepth 100000 in
theorem fixed_is (w : World) : Calls Tryd.prog 4 #[] w fun e w' => e = .returned (.bool true) ∧ Below w.heap.size w w' := by
  go_enter Tryd.func4, Tryd.ntmps4
  go_wp2_with fail
  refine (new_at (n := 3) (by decide) (by decide) w).mono ?_
  rintro e w1 ⟨rfl, hC1, b1⟩
  have H1 : Hid (CAt w1 w.heap.size 3 (.slice none 0 0) [] 0 ∧ Below w.heap.size w w1) := ⟨hC1, b1⟩
  clear hC1 b1
  go_wp2_with fail
  refine (new_no (n := 0) (.inl (by decide)) w1).mono ?_
  rintro e w1' ⟨rfl, rfl⟩
  obtain ⟨u2, w2, hu2, hz2, hv2, hb2, hs2⟩ := newV w1' v9 v9_len
  have A2 : Hid ((Instr.alloc 52 true (.tuple #[])).run Tryd.prog w1' = .ok (.pointer (some ⟨w1'.heap.size, 0, none⟩)) u2) := hu2
  have T2 : Hid ((Instr.storeAt 52 (.pointer (some ⟨w1'.heap.size, 0, none⟩)) (.agg (U8 v9).toArray)).run Tryd.prog u2 = .ok () w2) := hz2
  have G2 : Hid ((Instr.build 52 #[(0, .int .u8 9)]).run Tryd.prog w1' = .ok (.agg (U8 v9).toArray) w1') := build9 w1'
  have LD2 : Hid ((Instr.loadAt 52 (.pointer (some ⟨w1'.heap.size, 0, none⟩))).run Tryd.prog w2 = .ok (.agg (U8 v9).toArray) w2) := VAt.load hv2 v9_len
  have BI : Hid ((Instr.build 55 #[(0, .int .i64 2), (1, .agg (U8 v9).toArray)]).run Tryd.prog w2 = .ok (.agg (icells i9).toArray) w2) := buildI w2 2 v9 v9_len
  obtain ⟨w3, hw3⟩ : ∃ w3, w3 = w2.alloc (.cells (icells i9).toArray 55) := ⟨_, rfl⟩
  have BS : Hid ((Instr.buildSlice 45 1 #[(0, .agg (icells i9).toArray)]).run Tryd.prog w2 = .ok (.slice (some ⟨w2.heap.size, 0, none⟩) 1 1) w3) := by rw [hw3]; exact build_im w2 i9 rfl
  have b3 : Below w2.heap.size w2 w3 := by rw [hw3]; exact below_alloc w2 _
  have l3 : LAt 55 w3 w2.heap.size (icells i9) := by rw [hw3]; exact LAt.new _ _ _
  have s3 : w3.heap.size = w2.heap.size + 1 := by rw [hw3]; simp
  have c3 : CAt w3 w.heap.size 3 (.slice none 0 0) [] 0 := (H1.out.1.later hb2).later b3
  have hput := put_at c3 (Okc.new (by decide) (by decide)) (c := 1) (one_min l3 i9_wf) (by decide) (fun a ha _ => by
    cases ha
    rintro (e | e)
    · have := H1.out.1.lt; have e' : w2.heap.size = w.heap.size := e; omega
    · cases e) (ps := 7) (by decide)
  rw [put9.1, put9.2.1, put9.2.2] at hput
  have HPUT : Hid (Calls Tryd.prog 12 #[.pointer (some ⟨w.heap.size, 0, none⟩), .slice (some ⟨w2.heap.size, 0, none⟩) 1 1, .int .u64 7] w3 fun e w' => e = .returned (.int .i64 0) ∧ ∃ ve', Wrt w3 w' w.heap.size 3 (.slice none 0 0) ve' [x9] 8) := hput
  have H3 : Hid (VAt w3 w1'.heap.size v9 ∧ Below w.heap.size w w3 ∧ w3.heap.size = w1'.heap.size + 2 ∧ w.heap.size < w1'.heap.size) := ⟨LAt.later hv2 b3, below_then H1.out.2 (below_then hb2 b3), by omega, H1.out.1.lt⟩
  clear hu2 hz2 hv2 hb2 hs2 hw3 b3 l3 s3 c3 hput
  generalize w2.heap.size = b2 at *
  go_wp2_with ((with_reducible refine at_ops ?_); (first | ((first | (refine wpList_build_is (vs := [(0, .int .u8 9)]) (by rfl) 52 rfl (by rfl) G2.out ?_) | (refine wpList_alloc_is (by rfl) 52 rfl A2.out ?_) | (refine wpList_load_is (by rfl) 52 rfl rfl LD2.out ?_) | (refine wpList_build_is (vs := [(0, .int .i64 2), (1, .agg (U8 v9).toArray)]) (by rfl) 55 rfl (by rfl) BI.out ?_) | (refine wpList_slice_is (u := .agg (icells i9).toArray) (by rfl) 45 rfl rfl BS.out ?_)); simp only [Act.put, List.setIfInBounds_toArray, List.set_cons_zero, List.set_cons_succ]) | ((refine wpList_store_is (by rfl) 52 rfl rfl rfl T2.out ?_); simp only [Act.put])))
  refine HPUT.out.mono ?_
  rintro e w4 ⟨rfl, ve, hW⟩
  have hC4 := hW.at'
  have HW4 : Hid (CAt w4 w.heap.size 3 ve [x9] 8 ∧ Below w.heap.size w w4 ∧ VAt w4 w1'.heap.size v9 ∧ (∀ g, ve.ownBlock = some g → w1'.heap.size + 2 ≤ g ∧ g < w4.heap.size) ∧ w.heap.size < w1'.heap.size) := by
    have hk := hW.kept
    have hs := hk.size
    refine ⟨hC4, ?_, ?_, fun g hg => ⟨?_, (hC4.row.lt g hg).2⟩, H3.out.2.2.2⟩
    · refine hk.into H3.out.2.1 (fun b hb e => ?_) (Nat.le_refl _)
      rcases e with e | e
      · omega
      · cases e
    · exact (hk.block _ (LAt.lt H3.out.1) (fun e => by
        rcases e with e | e
        · have := H3.out.2.2.2; omega
        · cases e)).trans H3.out.1
    · rcases hW.new g hg with e | e
      · cases e
      · have := H3.out.2.2.1; omega
  clear hW hC4 HPUT H1 H3 G2 A2 T2 LD2 BI BS
  generalize w1'.heap.size = bv at *
  go_wp2_with fail
  refine (get_at HW4.out.1 okc9 2).mono ?_
  rintro e w5 ⟨rfl, b5⟩
  rw [get9.1, get9.2]
  obtain ⟨u6, w6, hu6, hz6, hl6, hb6, hs6⟩ := newE w5 x9 v9_len
  have A6 : Hid ((Instr.alloc 57 true (.tuple #[])).run Tryd.prog w5 = .ok (.pointer (some ⟨w5.heap.size, 0, none⟩)) u6) := hu6
  have T6 : Hid ((Instr.storeAt 57 (.pointer (some ⟨w5.heap.size, 0, none⟩)) (.agg (ecells x9).toArray)).run Tryd.prog u6 = .ok () w6) := hz6
  have b46 : Below w4.heap.size w4 w6 := below_then b5 hb6
  have H6 : Hid (CAt w6 w.heap.size 3 ve [x9] 8 ∧ Below w.heap.size w w6 ∧ VAt w6 bv v9 ∧ LAt 57 w6 w5.heap.size (ecells x9) ∧ (∀ g, ve.ownBlock = some g → bv + 2 ≤ g ∧ g < w5.heap.size) ∧ w5.heap.size < w6.heap.size ∧ w.heap.size < w5.heap.size ∧ w.heap.size < bv) :=
    ⟨HW4.out.1.later b46, below_then HW4.out.2.1 b46, LAt.later HW4.out.2.2.1 b46, hl6, fun g hg => ⟨(HW4.out.2.2.2.1 g hg).1, Nat.lt_of_lt_of_le (HW4.out.2.2.2.1 g hg).2 b5.size⟩, by omega, Nat.lt_of_lt_of_le HW4.out.1.lt b5.size, HW4.out.2.2.2.2⟩
  clear HW4 b5 hu6 hz6 hl6 hb6 hs6 b46
  go_wp2_with ((with_reducible refine at_ops ?_); (first | ((refine wpList_alloc_is (by rfl) 57 rfl A6.out ?_); simp only [Act.put, List.setIfInBounds_toArray, List.set_cons_zero, List.set_cons_succ]) | ((refine wpList_store_is (by rfl) 57 rfl rfl rfl T6.out ?_); simp only [Act.put])))
  refine (entries_any (H6.out.1.stands okc9)).mono ?_
  rintro e w7 ⟨vl, rfl, ho7, b7⟩
  obtain ⟨pl, cl, rfl, hE7, -, -⟩ := EOwn.in ho7 okc9.wf
  have hO7 : ∀ g, (Value.slice pl 1 cl).ownBlock = some g → w6.heap.size ≤ g := fun g hg => (ho7.lt g hg).1
  obtain ⟨bl, ol, rfl, -⟩ := hE7.cells (by decide)
  have H7 : Hid (EIn w7 (some ⟨bl, ol, none⟩) 1 [x9] ∧ w6.heap.size ≤ bl ∧ Below w6.heap.size w6 w7) := ⟨hE7, hO7 bl rfl, b7⟩
  clear ho7 hE7 hO7 b7
  go_wp2_with fail
  refine (last_at (H6.out.1.later H7.out.2.2) (by decide) (by decide)).mono ?_
  rintro e w7' ⟨rfl, rfl⟩
  rw [show lasV 8 = 7 from rfl, show lasB 8 = true from rfl]
  go_wp2_with fail
  refine (given_any ((H6.out.1.later H7.out.2.2).stands okc9) 5).mono ?_
  rintro e w8 ⟨vg, rfl, ho8, b8⟩
  obtain ⟨pg, cg, rfl, -, -⟩ := O.own_form ho8
  have b68 : Below w6.heap.size w6 w8 := below_then H7.out.2.2 b8
  have C8 : CAt w8 w.heap.size 3 ve [x9] 8 := H6.out.1.later b68
  have hD : Below w8.heap.size w8 w8.drew := below_drawn 1
  have hB8 : Below w.heap.size w w8.drew := below_then H6.out.2.1 (below_then b68 hD)
  have HC : Hid (CAt w8.drew w.heap.size 3 ve [x9] 8) := C8.later hD
  have HBW : Hid (Below w.heap.size w w8.drew) := hB8
  have HLI : Hid (EIn w8.drew (some ⟨bl, ol, none⟩) 1 [x9]) := (H7.out.1.later b8).later hD
  have nbx : ¬ (w5.heap.size = w.heap.size ∨ ve.ownBlock = some w5.heap.size) := by
    rintro (e | e)
    · have := H6.out.2.2.2.2.2.2.1; omega
    · have := (H6.out.2.2.2.2.1 _ e).2; omega
  have nbl : ¬ (bl = w.heap.size ∨ ve.ownBlock = some bl) := by
    have h1 := H7.out.2.1
    have h2 := H6.out.2.2.2.2.2.1
    rintro (e | e)
    · have := H6.out.2.2.2.2.2.2.1; omega
    · have := (H6.out.2.2.2.2.1 _ e).2; omega
  have nbv : ¬ (bv = w.heap.size ∨ ve.ownBlock = some bv) := by
    rintro (e | e)
    · have hv := LAt.later (LAt.later H6.out.2.2.1 b68) hD
      have := (C8.later hD).st
      rw [← e, show w8.drew.heap[bv]? = _ from hv] at this
      simp at this
    · have := (H6.out.2.2.2.2.1 _ e).1; omega
  have HSP : Hid (∀ a, some (⟨bl, ol, none⟩ : Addr) = some a → 0 < 1 → ¬ (a.block = w.heap.size ∨ ve.ownBlock = some a.block)) := fun a ha _ => by cases ha; exact nbl
  have HSW : Hid (∀ b, b < w.heap.size → ¬ (b = w.heap.size ∨ ve.ownBlock = some b)) := fun b hb => by
    rintro (e | e)
    · omega
    · have h1 := (H6.out.2.2.2.2.1 _ e).1; have h2 := H6.out.2.2.2.2.2.2.2; omega
  have LV : Hid (∀ W, Kept (fun k => k = w.heap.size ∨ ve.ownBlock = some k) w8.drew W → (Instr.loadAt 52 (.pointer (some ⟨bv, 0, none⟩))).run Tryd.prog W = .ok (.agg (U8 v9).toArray) W) := fun W hW => by
    have hv : VAt w8.drew bv v9 := LAt.later (LAt.later H6.out.2.2.1 b68) hD
    exact VAt.load ((hW.block bv (LAt.lt hv) nbv).trans hv) v9_len
  have LX : Hid (∀ W, Kept (fun k => k = w.heap.size ∨ ve.ownBlock = some k) w8.drew W → (Instr.loadAt 57 (.pointer (some ⟨w5.heap.size, 0, none⟩))).run Tryd.prog W = .ok (.agg (ecells x9).toArray) W) := fun W hW => by
    have hv : LAt 57 w8.drew w5.heap.size (ecells x9) := LAt.later (LAt.later H6.out.2.2.2.1 b68) hD
    exact LAt.loadE etC ((hW.block _ (LAt.lt hv) nbx).trans hv) v9_len
  have LL : Hid (∀ W, Kept (fun k => k = w.heap.size ∨ ve.ownBlock = some k) w8.drew W → (Instr.loadAt 57 (.pointer (some ⟨bl, ol, none⟩))).run Tryd.prog W = .ok (.agg (ecells x9).toArray) W) := fun W hW => by
    have := EIn.load etC (HLI.out.far hW (fun a ha _ => by cases ha; exact nbl)) (k := 0) (i := x9) rfl
    simpa using this
  have LE : Hid (∀ W, (binOp .eql 57 (.agg (ecells x9).toArray) (.agg (ecells x9).toArray)).run Tryd.prog W = .ok (.bool true) W) := fun W => by
    have := eqlE etC W x9 x9 v9_len v9_len
    rw [(enB_iff x9 x9).2 rfl] at this
    exact this
  clear ho8 b8 b68 C8 hD hB8 nbx nbl nbv H6 H7 A6 T6
  go_wp2_with fail
  refine wp_region_noPanic ?_
  refine wp_region_held_drew (S := fun W => Kept (fun k => k = w.heap.size ∨ ve.ownBlock = some k) w8.drew W) (by kernel_rfl) (Kept.refl _ _) (fun hHeld => ?_)
  generalize w5.heap.size = bx at *
  generalize w8.drew = wD at *
  refine wpAnyH_take (i := 0) (v := ?va1) (by simp; rfl) (by kernel_rfl) (by kernel_rfl) (by kernel_rfl) (fun _ _ _ h => h) (Or.inl ⟨by rfl, ?ya1⟩) hHeld ?ra1
  case ya1 => intro w hSw; clear hSw; go_simp; with_reducible rfl
  simp only [Act.put, List.setIfInBounds_toArray, List.set_cons_zero, List.set_cons_succ]
  refine wpAnyH_take (i := 1) (v := ?va2) (by simp; rfl) (by kernel_rfl) (by kernel_rfl) (by kernel_rfl) (fun _ _ _ h => h) (Or.inl ⟨by rfl, ?ya2⟩) hHeld ?ra2
  case ya2 => intro w hSw; clear hSw; go_simp; with_reducible rfl
  simp only [Act.put, List.setIfInBounds_toArray, List.set_cons_zero, List.set_cons_succ]
  refine wpAnyH_take (i := 2) (v := ?va3) (by simp; rfl) (by kernel_rfl) (by kernel_rfl) (by kernel_rfl) (fun _ _ _ h => h) (Or.inl ⟨by rfl, ?ya3⟩) hHeld ?ra3
  case ya3 => intro w hSw; clear hSw; go_simp; with_reducible rfl
  simp only [Act.put, List.setIfInBounds_toArray, List.set_cons_zero, List.set_cons_succ]
  refine wpAnyH_take (i := 3) (v := ?va4) (by simp; rfl) (by kernel_rfl) (by kernel_rfl) (by kernel_rfl) (fun _ _ _ h => h) (Or.inl ⟨by rfl, ?ya4⟩) hHeld ?ra4
  case ya4 => intro w hSw; clear hSw; go_simp; with_reducible rfl
  simp only [Act.put, List.setIfInBounds_toArray, List.set_cons_zero, List.set_cons_succ]
  refine wpAnyH_take (i := 4) (v := ?va5) (by simp; rfl) (by kernel_rfl) (by kernel_rfl) (by kernel_rfl) (fun _ _ _ h => h) (Or.inl ⟨by rfl, ?ya5⟩) hHeld ?ra5
  case ya5 => intro w hSw; clear hSw; go_simp; with_reducible rfl
  simp only [Act.put, List.setIfInBounds_toArray, List.set_cons_zero, List.set_cons_succ]
  refine wpAnyH_take (i := 5) (v := ?va6) (by simp; rfl) (by kernel_rfl) (by kernel_rfl) (by kernel_rfl) (fun _ _ _ h => h) (Or.inl ⟨by rfl, ?ya6⟩) hHeld ?ra6
  case ya6 => intro w hSw; clear hSw; go_simp; with_reducible rfl
  simp only [Act.put, List.setIfInBounds_toArray, List.set_cons_zero, List.set_cons_succ]
  refine wpAnyH_take (i := 6) (v := _) (by simp; rfl) (by kernel_rfl) (by kernel_rfl) (by kernel_rfl) (fun _ _ _ h => h) (yields_load_is (x := .tmp 7) (p := .pointer (some ⟨bx, 0, none⟩)) (v := .agg (ecells x9).toArray) (by rfl) 57 rfl rfl (fun W hW => LX.out W hW)) hHeld ?_
  simp only [Act.put, List.setIfInBounds_toArray, List.set_cons_zero, List.set_cons_succ]
  refine wpAnyH_take (i := 7) (v := _) (by simp; rfl) (by kernel_rfl) (by kernel_rfl) (by kernel_rfl) (fun _ _ _ h => h) (yields_load_is (x := .tmp 5) (p := .pointer (some ⟨bv, 0, none⟩)) (v := .agg (U8 v9).toArray) (by rfl) 52 rfl rfl (fun W hW => LV.out W hW)) hHeld ?_
  simp only [Act.put, List.setIfInBounds_toArray, List.set_cons_zero, List.set_cons_succ]
  refine wpAnyH_take (i := 8) (v := _) (by simp; rfl) (by kernel_rfl) (by kernel_rfl) (by kernel_rfl) (fun _ _ _ h => h) (yields_build_is (vs := [(0, .int .i64 2), (1, .agg (U8 v9).toArray), (2, .int .u64 7)]) (by rfl) 57 rfl (by rfl) (fun w => buildE etC w 2 v9 7 v9_len)) hHeld ?_
  simp only [Act.put, List.setIfInBounds_toArray, List.set_cons_zero, List.set_cons_succ]
  refine wpAnyH_take (i := 9) (v := _) (by simp; rfl) (by kernel_rfl) (by kernel_rfl) (by kernel_rfl) (fun _ _ _ h => h) (yields_eql_is (xs := (ecells x9).toArray) (ys := (ecells x9).toArray) (by rfl) 57 rfl rfl rfl etC.eqg LE.out) hHeld ?_
  simp only [Act.put, List.setIfInBounds_toArray, List.set_cons_zero, List.set_cons_succ]
  refine wpAnyH_take (i := 10) (v := ?va7) (by simp; rfl) (by kernel_rfl) (by kernel_rfl) (by kernel_rfl) (fun _ _ _ h => h) (Or.inl ⟨by rfl, ?ya7⟩) hHeld ?ra7
  case ya7 => intro w hSw; clear hSw; go_simp; with_reducible rfl
  simp only [Act.put, List.setIfInBounds_toArray, List.set_cons_zero, List.set_cons_succ]
  refine wpAnyH_take (i := 11) (v := ?va8) (by simp; rfl) (by kernel_rfl) (by kernel_rfl) (by kernel_rfl) (fun _ _ _ h => h) (Or.inl ⟨by rfl, ?ya8⟩) hHeld ?ra8
  case ya8 => intro w hSw; clear hSw; go_simp; with_reducible rfl
  simp only [Act.put, List.setIfInBounds_toArray, List.set_cons_zero, List.set_cons_succ]
  refine wpAnyH_take (i := 12) (v := ?va9) (by simp; rfl) (by kernel_rfl) (by kernel_rfl) (by kernel_rfl) (fun _ _ _ h => h) (Or.inl ⟨by rfl, ?ya9⟩) hHeld ?ra9
  case ya9 => intro w hSw; clear hSw; go_simp; with_reducible rfl
  simp only [Act.put, List.setIfInBounds_toArray, List.set_cons_zero, List.set_cons_succ]
  refine wpAnyH_take (i := 13) (v := ?va10) (by simp; rfl) (by kernel_rfl) (by kernel_rfl) (by kernel_rfl) (fun _ _ _ h => h) (Or.inl ⟨by rfl, ?ya10⟩) hHeld ?ra10
  case ya10 => intro w hSw; clear hSw; go_simp; with_reducible rfl
  simp only [Act.put, List.setIfInBounds_toArray, List.set_cons_zero, List.set_cons_succ]
  refine wpAnyH_take (i := 14) (v := ?va11) (by simp; rfl) (by kernel_rfl) (by kernel_rfl) (by kernel_rfl) (fun _ _ _ h => h) (Or.inl ⟨by rfl, ?ya11⟩) hHeld ?ra11
  case ya11 => intro w hSw; clear hSw; go_simp; with_reducible rfl
  simp only [Act.put, List.setIfInBounds_toArray, List.set_cons_zero, List.set_cons_succ]
  refine wpAnyH_take (i := 15) (v := ?va12) (by simp; rfl) (by kernel_rfl) (by kernel_rfl) (by kernel_rfl) (fun _ _ _ h => h) (Or.inl ⟨by rfl, ?ya12⟩) hHeld ?ra12
  case ya12 => intro w hSw; clear hSw; go_simp; with_reducible rfl
  simp only [Act.put, List.setIfInBounds_toArray, List.set_cons_zero, List.set_cons_succ]
  refine wpAnyH_take (i := 16) (v := ?va13) (by simp; rfl) (by kernel_rfl) (by kernel_rfl) (by kernel_rfl) (fun _ _ _ h => h) (Or.inl ⟨by rfl, ?ya13⟩) hHeld ?ra13
  case ya13 => intro w hSw; clear hSw; go_simp; with_reducible rfl
  simp only [Act.put, List.setIfInBounds_toArray, List.set_cons_zero, List.set_cons_succ]
  refine wpAnyH_take (i := 17) (v := ?va14) (by simp; rfl) (by kernel_rfl) (by kernel_rfl) (by kernel_rfl) (fun _ _ _ h => h) (Or.inl ⟨by rfl, ?ya14⟩) hHeld ?ra14
  case ya14 => intro w hSw; clear hSw; go_simp; with_reducible rfl
  simp only [Act.put, List.setIfInBounds_toArray, List.set_cons_zero, List.set_cons_succ]
  refine wpAnyH_take (i := 18) (v := ?va15) (by simp; rfl) (by kernel_rfl) (by kernel_rfl) (by kernel_rfl) (fun _ _ _ h => h) (Or.inl ⟨by rfl, ?ya15⟩) hHeld ?ra15
  case ya15 => intro w hSw; clear hSw; go_simp; with_reducible rfl
  simp only [Act.put, List.setIfInBounds_toArray, List.set_cons_zero, List.set_cons_succ]
  refine wpAnyH_take (i := 19) (v := _) (by simp; rfl) (by kernel_rfl) (by kernel_rfl) (by kernel_rfl) (fun _ _ _ h => h) (yields_load_is (x := .tmp 75) (p := .pointer (some ⟨bl, ol, none⟩)) (v := .agg (ecells x9).toArray) (by rfl) 57 rfl rfl (fun W hW => LL.out W hW)) hHeld ?_
  simp only [Act.put, List.setIfInBounds_toArray, List.set_cons_zero, List.set_cons_succ]
  refine wpAnyH_take (i := 20) (v := _) (by simp; rfl) (by kernel_rfl) (by kernel_rfl) (by kernel_rfl) (fun _ _ _ h => h) (yields_load_is (x := .tmp 7) (p := .pointer (some ⟨bx, 0, none⟩)) (v := .agg (ecells x9).toArray) (by rfl) 57 rfl rfl (fun W hW => LX.out W hW)) hHeld ?_
  simp only [Act.put, List.setIfInBounds_toArray, List.set_cons_zero, List.set_cons_succ]
  refine wpAnyH_take (i := 21) (v := _) (by simp; rfl) (by kernel_rfl) (by kernel_rfl) (by kernel_rfl) (fun _ _ _ h => h) (yields_eql_is (xs := (ecells x9).toArray) (ys := (ecells x9).toArray) (by rfl) 57 rfl rfl rfl etC.eqg LE.out) hHeld ?_
  simp only [Act.put, List.setIfInBounds_toArray, List.set_cons_zero, List.set_cons_succ]
  refine wpAnyH_take (i := 22) (v := ?va16) (by simp; rfl) (by kernel_rfl) (by kernel_rfl) (by kernel_rfl) (fun _ _ _ h => h) (Or.inl ⟨by rfl, ?ya16⟩) hHeld ?ra16
  case ya16 => intro w hSw; clear hSw; go_simp; with_reducible rfl
  simp only [Act.put, List.setIfInBounds_toArray, List.set_cons_zero, List.set_cons_succ]
  refine wpAnyH_take (i := 23) (v := ?va17) (by simp; rfl) (by kernel_rfl) (by kernel_rfl) (by kernel_rfl) (fun _ _ _ h => h) (Or.inl ⟨by rfl, ?ya17⟩) hHeld ?ra17
  case ya17 => intro w hSw; clear hSw; go_simp; with_reducible rfl
  simp only [Act.put, List.setIfInBounds_toArray, List.set_cons_zero, List.set_cons_succ]
  refine wpAnyH_take (i := 24) (v := ?va18) (by simp; rfl) (by kernel_rfl) (by kernel_rfl) (by kernel_rfl) (fun _ _ _ h => h) (Or.inl ⟨by rfl, ?ya18⟩) hHeld ?ra18
  case ya18 => intro w hSw; clear hSw; go_simp; with_reducible rfl
  simp only [Act.put, List.setIfInBounds_toArray, List.set_cons_zero, List.set_cons_succ]
  refine wpAnyH_take (i := 25) (v := ?va19) (by simp; rfl) (by kernel_rfl) (by kernel_rfl) (by kernel_rfl) (fun _ _ _ h => h) (Or.inl ⟨by rfl, ?ya19⟩) hHeld ?ra19
  case ya19 => intro w hSw; clear hSw; go_simp; with_reducible rfl
  simp only [Act.put, List.setIfInBounds_toArray, List.set_cons_zero, List.set_cons_succ]
  refine wpAnyH_take (i := 26) (v := ?va20) (by simp; rfl) (by kernel_rfl) (by kernel_rfl) (by kernel_rfl) (fun _ _ _ h => h) (Or.inl ⟨by rfl, ?ya20⟩) hHeld ?ra20
  case ya20 => intro w hSw; clear hSw; go_simp; with_reducible rfl
  simp only [Act.put, List.setIfInBounds_toArray, List.set_cons_zero, List.set_cons_succ]
  refine wpAnyH_take (i := 27) (v := ?va21) (by simp; rfl) (by kernel_rfl) (by kernel_rfl) (by kernel_rfl) (fun _ _ _ h => h) (Or.inl ⟨by rfl, ?ya21⟩) hHeld ?ra21
  case ya21 => intro w hSw; clear hSw; go_simp; with_reducible rfl
  simp only [Act.put, List.setIfInBounds_toArray, List.set_cons_zero, List.set_cons_succ]
  refine wpAnyH_take (i := 28) (v := ?va22) (by simp; rfl) (by kernel_rfl) (by kernel_rfl) (by kernel_rfl) (fun _ _ _ h => h) (Or.inl ⟨by rfl, ?ya22⟩) hHeld ?ra22
  case ya22 => intro w hSw; clear hSw; go_simp; with_reducible rfl
  simp only [Act.put, List.setIfInBounds_toArray, List.set_cons_zero, List.set_cons_succ]
  refine wpAnyH_take (i := 29) (v := ?va23) (by simp; rfl) (by kernel_rfl) (by kernel_rfl) (by kernel_rfl) (fun _ _ _ h => h) (Or.inl ⟨by rfl, ?ya23⟩) hHeld ?ra23
  case ya23 => intro w hSw; clear hSw; go_simp; with_reducible rfl
  simp only [Act.put, List.setIfInBounds_toArray, List.set_cons_zero, List.set_cons_succ]
  refine wpAnyH_take (i := 30) (v := ?va24) (by simp; rfl) (by kernel_rfl) (by kernel_rfl) (by kernel_rfl) (fun _ _ _ h => h) (Or.inl ⟨by rfl, ?ya24⟩) hHeld ?ra24
  case ya24 => intro w hSw; clear hSw; go_simp; with_reducible rfl
  simp only [Act.put, List.setIfInBounds_toArray, List.set_cons_zero, List.set_cons_succ]
  refine wpAnyH_take (i := 31) (v := ?va25) (by simp; rfl) (by kernel_rfl) (by kernel_rfl) (by kernel_rfl) (fun _ _ _ h => h) (Or.inl ⟨by rfl, ?ya25⟩) hHeld ?ra25
  case ya25 => intro w hSw; clear hSw; go_simp; with_reducible rfl
  simp only [Act.put, List.setIfInBounds_toArray, List.set_cons_zero, List.set_cons_succ]
  refine wpAnyH_ready (rs := [32]) (by kernel_rfl) (by simp) ?_
  refine AllReadyH.cons (by simp; rfl) (fun Kc hKc => ?_) AllReadyH.nil
  go_simp
  refine (len_at HC.out).mono ?_
  rintro e wz ⟨rfl, rfl⟩
  refine hKc.out _ _ (Kept.refl _ _) (fun hHeld => ?_)
  clear hKc Kc
  refine wpAnyH_take (i := 33) (v := ?va26) (by simp; rfl) (by kernel_rfl) (by kernel_rfl) (by kernel_rfl) (fun _ _ _ h => h) (Or.inl ⟨by rfl, ?ya26⟩) hHeld ?ra26
  case ya26 => intro w hSw; clear hSw; go_simp; with_reducible rfl
  simp only [Act.put, List.setIfInBounds_toArray, List.set_cons_zero, List.set_cons_succ]
  refine wpAnyH_take (i := 34) (v := ?va27) (by simp; rfl) (by kernel_rfl) (by kernel_rfl) (by kernel_rfl) (fun _ _ _ h => h) (Or.inl ⟨by rfl, ?ya27⟩) hHeld ?ra27
  case ya27 => intro w hSw; clear hSw; go_simp; with_reducible rfl
  simp only [Act.put, List.setIfInBounds_toArray, List.set_cons_zero, List.set_cons_succ]
  refine wpAnyH_take (i := 35) (v := ?va28) (by simp; rfl) (by kernel_rfl) (by kernel_rfl) (by kernel_rfl) (fun _ _ _ h => h) (Or.inl ⟨by rfl, ?ya28⟩) hHeld ?ra28
  case ya28 => intro w hSw; clear hSw; go_simp; with_reducible rfl
  simp only [Act.put, List.setIfInBounds_toArray, List.set_cons_zero, List.set_cons_succ]
  refine wpAnyH_take (i := 36) (v := ?va29) (by simp; rfl) (by kernel_rfl) (by kernel_rfl) (by kernel_rfl) (fun _ _ _ h => h) (Or.inl ⟨by rfl, ?ya29⟩) hHeld ?ra29
  case ya29 => intro w hSw; clear hSw; go_simp; with_reducible rfl
  simp only [Act.put, List.setIfInBounds_toArray, List.set_cons_zero, List.set_cons_succ]
  refine wpAnyH_take (i := 37) (v := ?va30) (by simp; rfl) (by kernel_rfl) (by kernel_rfl) (by kernel_rfl) (fun _ _ _ h => h) (Or.inl ⟨by rfl, ?ya30⟩) hHeld ?ra30
  case ya30 => intro w hSw; clear hSw; go_simp; with_reducible rfl
  simp only [Act.put, List.setIfInBounds_toArray, List.set_cons_zero, List.set_cons_succ]
  refine wpAnyH_take (i := 38) (v := ?va31) (by simp; rfl) (by kernel_rfl) (by kernel_rfl) (by kernel_rfl) (fun _ _ _ h => h) (Or.inl ⟨by rfl, ?ya31⟩) hHeld ?ra31
  case ya31 => intro w hSw; clear hSw; go_simp; with_reducible rfl
  simp only [Act.put, List.setIfInBounds_toArray, List.set_cons_zero, List.set_cons_succ]
  refine wpAnyH_take (i := 39) (v := ?va32) (by simp; rfl) (by kernel_rfl) (by kernel_rfl) (by kernel_rfl) (fun _ _ _ h => h) (Or.inl ⟨by rfl, ?ya32⟩) hHeld ?ra32
  case ya32 => intro w hSw; clear hSw; go_simp; with_reducible rfl
  simp only [Act.put, List.setIfInBounds_toArray, List.set_cons_zero, List.set_cons_succ]
  refine wpAnyH_take (i := 40) (v := ?va33) (by simp; rfl) (by kernel_rfl) (by kernel_rfl) (by kernel_rfl) (fun _ _ _ h => h) (Or.inl ⟨by rfl, ?ya33⟩) hHeld ?ra33
  case ya33 => intro w hSw; clear hSw; go_simp; with_reducible rfl
  simp only [Act.put, List.setIfInBounds_toArray, List.set_cons_zero, List.set_cons_succ]
  refine wpAnyH_take (i := 41) (v := ?va34) (by simp; rfl) (by kernel_rfl) (by kernel_rfl) (by kernel_rfl) (fun _ _ _ h => h) (Or.inl ⟨by rfl, ?ya34⟩) hHeld ?ra34
  case ya34 => intro w hSw; clear hSw; go_simp; with_reducible rfl
  simp only [Act.put, List.setIfInBounds_toArray, List.set_cons_zero, List.set_cons_succ]
  refine wpAnyH_take (i := 42) (v := ?va35) (by simp; rfl) (by kernel_rfl) (by kernel_rfl) (by kernel_rfl) (fun _ _ _ h => h) (Or.inl ⟨by rfl, ?ya35⟩) hHeld ?ra35
  case ya35 => intro w hSw; clear hSw; go_simp; with_reducible rfl
  simp only [Act.put, List.setIfInBounds_toArray, List.set_cons_zero, List.set_cons_succ]
  refine wpAnyH_take (i := 43) (v := ?va36) (by simp; rfl) (by kernel_rfl) (by kernel_rfl) (by kernel_rfl) (fun _ _ _ h => h) (Or.inl ⟨by rfl, ?ya36⟩) hHeld ?ra36
  case ya36 => intro w hSw; clear hSw; go_simp; with_reducible rfl
  simp only [Act.put, List.setIfInBounds_toArray, List.set_cons_zero, List.set_cons_succ]
  refine wpAnyH_take (i := 44) (v := ?va37) (by simp; rfl) (by kernel_rfl) (by kernel_rfl) (by kernel_rfl) (fun _ _ _ h => h) (Or.inl ⟨by rfl, ?ya37⟩) hHeld ?ra37
  case ya37 => intro w hSw; clear hSw; go_simp; with_reducible rfl
  simp only [Act.put, List.setIfInBounds_toArray, List.set_cons_zero, List.set_cons_succ]
  refine wpAnyH_ready (rs := [45]) (by kernel_rfl) (by simp) ?_
  refine AllReadyH.cons (by simp; rfl) (fun Kc hKc => ?_) AllReadyH.nil
  go_simp
  refine (copy_at HC.out okc9).mono ?_
  rintro e wA ⟨Q', vc, rfl, hN⟩
  have HBA : Hid (Below wz.heap.size wz wA) := hN.below
  refine hKc.out _ _ (Kept.of_below _ hN.below) (fun hHeld => ?_)
  clear hKc Kc hN
  refine wpAnyH_take (i := 46) (v := ?va38) (by simp; rfl) (by kernel_rfl) (by kernel_rfl) (by kernel_rfl) (fun _ _ _ h => h) (Or.inl ⟨by rfl, ?ya38⟩) hHeld ?ra38
  case ya38 => intro w hSw; clear hSw; go_simp; with_reducible rfl
  simp only [Act.put, List.setIfInBounds_toArray, List.set_cons_zero, List.set_cons_succ]
  refine wpAnyH_take (i := 47) (v := ?va39) (by simp; rfl) (by kernel_rfl) (by kernel_rfl) (by kernel_rfl) (fun _ _ _ h => h) (Or.inl ⟨by rfl, ?ya39⟩) hHeld ?ra39
  case ya39 => intro w hSw; clear hSw; go_simp; with_reducible rfl
  simp only [Act.put, List.setIfInBounds_toArray, List.set_cons_zero, List.set_cons_succ]
  refine wpAnyH_take (i := 48) (v := ?va40) (by simp; rfl) (by kernel_rfl) (by kernel_rfl) (by kernel_rfl) (fun _ _ _ h => h) (Or.inl ⟨by rfl, ?ya40⟩) hHeld ?ra40
  case ya40 => intro w hSw; clear hSw; go_simp; with_reducible rfl
  simp only [Act.put, List.setIfInBounds_toArray, List.set_cons_zero, List.set_cons_succ]
  refine wpAnyH_take (i := 49) (v := ?va41) (by simp; rfl) (by kernel_rfl) (by kernel_rfl) (by kernel_rfl) (fun _ _ _ h => h) (Or.inl ⟨by rfl, ?ya41⟩) hHeld ?ra41
  case ya41 => intro w hSw; clear hSw; go_simp; with_reducible rfl
  simp only [Act.put, List.setIfInBounds_toArray, List.set_cons_zero, List.set_cons_succ]
  refine wpAnyH_take (i := 50) (v := ?va42) (by simp; rfl) (by kernel_rfl) (by kernel_rfl) (by kernel_rfl) (fun _ _ _ h => h) (Or.inl ⟨by rfl, ?ya42⟩) hHeld ?ra42
  case ya42 => intro w hSw; clear hSw; go_simp; with_reducible rfl
  simp only [Act.put, List.setIfInBounds_toArray, List.set_cons_zero, List.set_cons_succ]
  refine wpAnyH_ready (rs := [51]) (by kernel_rfl) (by simp) ?_
  refine AllReadyH.cons (by simp; rfl) (fun Kc hKc => ?_) AllReadyH.nil
  go_simp
  refine (drop_call (HC.out.later HBA.out) okc9 (HLI.out.later HBA.out) (by decide) HSP.out).mono ?_
  rintro e wB ⟨rfl, vd, hW⟩
  rw [drp9.1] at hW
  rw [drp9.2]
  have HCB : Hid (CAt wB w.heap.size 3 vd [] 8) := hW.at'
  have HBB : Hid (Below w.heap.size w wB) := (hW.kept.trans (Kept.refl _ _) (fun _ _ e => e)).into (below_then HBW.out HBA.out) HSW.out (Nat.le_refl _)
  refine hKc.out _ _ ((Kept.of_below _ HBA.out).trans hW.kept (fun _ _ e => e)) (fun hHeld => ?_)
  clear hKc Kc hW
  refine wpAnyH_take (i := 52) (v := ?va43) (by simp; rfl) (by kernel_rfl) (by kernel_rfl) (by kernel_rfl) (fun _ _ _ h => h) (Or.inl ⟨by rfl, ?ya43⟩) hHeld ?ra43
  case ya43 => intro w hSw; clear hSw; go_simp; with_reducible rfl
  simp only [Act.put, List.setIfInBounds_toArray, List.set_cons_zero, List.set_cons_succ]
  refine wpAnyH_take (i := 53) (v := ?va44) (by simp; rfl) (by kernel_rfl) (by kernel_rfl) (by kernel_rfl) (fun _ _ _ h => h) (Or.inl ⟨by rfl, ?ya44⟩) hHeld ?ra44
  case ya44 => intro w hSw; clear hSw; go_simp; with_reducible rfl
  simp only [Act.put, List.setIfInBounds_toArray, List.set_cons_zero, List.set_cons_succ]
  refine wpAnyH_take (i := 54) (v := ?va45) (by simp; rfl) (by kernel_rfl) (by kernel_rfl) (by kernel_rfl) (fun _ _ _ h => h) (Or.inl ⟨by rfl, ?ya45⟩) hHeld ?ra45
  case ya45 => intro w hSw; clear hSw; go_simp; with_reducible rfl
  simp only [Act.put, List.setIfInBounds_toArray, List.set_cons_zero, List.set_cons_succ]
  refine wpAnyH_take (i := 55) (v := ?va46) (by simp; rfl) (by kernel_rfl) (by kernel_rfl) (by kernel_rfl) (fun _ _ _ h => h) (Or.inl ⟨by rfl, ?ya46⟩) hHeld ?ra46
  case ya46 => intro w hSw; clear hSw; go_simp; with_reducible rfl
  simp only [Act.put, List.setIfInBounds_toArray, List.set_cons_zero, List.set_cons_succ]
  refine wpAnyH_ready (rs := [56]) (by kernel_rfl) (by simp) ?_
  refine AllReadyH.cons (by simp; rfl) (fun Kc hKc => ?_) AllReadyH.nil
  go_simp
  refine (len_at HCB.out).mono ?_
  rintro e wC ⟨rfl, rfl⟩
  refine hKc.out _ _ hHeld (fun hHeld => ?_)
  clear hKc Kc
  refine wpAnyH_take (i := 57) (v := ?va47) (by simp; rfl) (by kernel_rfl) (by kernel_rfl) (by kernel_rfl) (fun _ _ _ h => h) (Or.inl ⟨by rfl, ?ya47⟩) hHeld ?ra47
  case ya47 => intro w hSw; clear hSw; go_simp; with_reducible rfl
  simp only [Act.put, List.setIfInBounds_toArray, List.set_cons_zero, List.set_cons_succ]
  refine wpAnyH_take (i := 58) (v := ?va48) (by simp; rfl) (by kernel_rfl) (by kernel_rfl) (by kernel_rfl) (fun _ _ _ h => h) (Or.inl ⟨by rfl, ?ya48⟩) hHeld ?ra48
  case ya48 => intro w hSw; clear hSw; go_simp; with_reducible rfl
  simp only [Act.put, List.setIfInBounds_toArray, List.set_cons_zero, List.set_cons_succ]
  refine wpAnyH_take (i := 59) (v := ?va49) (by simp; rfl) (by kernel_rfl) (by kernel_rfl) (by kernel_rfl) (fun _ _ _ h => h) (Or.inl ⟨by rfl, ?ya49⟩) hHeld ?ra49
  case ya49 => intro w hSw; clear hSw; go_simp; with_reducible rfl
  simp only [Act.put, List.setIfInBounds_toArray, List.set_cons_zero]
  refine wpAnyH_done (by kernel_rfl) (NoPanic.normal ?_) _
  clear hHeld
  go_wp2
  go_ret
  exact ⟨rfl, HBB.out⟩
end Go.Proofs.YthcpnfelnonhnaaDoor
