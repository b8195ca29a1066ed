/-
  Layer 17: Copy.
-/
import Derived.Test.YthcpnfelnonhnaaDoorPj
namespace Go.Proofs.YthcpnfelnonhnaaDoor
open Go.RowKit

theorem own_mono {w : World} {base base' : Nat} {e : TypeId} {size : Nat} {v : Value} {n : Nat} {xs : List Value} (h : w.ownsRow base e size v n xs) (hb : base' ≤ base) : w.ownsRow base' e size v n xs := by
  refine ⟨h.1, ?_⟩
  rcases h.2 with h | ⟨g, cap, cur, e1, h1, r⟩
  · exact .inl h
  · exact .inr ⟨g, cap, cur, e1, Nat.le_trans hb h1, r⟩
/-- a new cache -/
structure NewC (w w' : World) (Q : Nat) (n : Int) (ve : Value) (L : List En) (nx : Int) : Prop where
  at' : CAt w' Q n ve L nx
  below : Below w.heap.size w w'
  q : w.heap.size ≤ Q
  row : ∀ g, ve.ownBlock = some g → w.heap.size ≤ g
section
variable {w w' : World} {Q : Nat} {n nx : Int} {ve : Value} {L : List En}
set_option maxHeartbeats 2000000 in
set_option maxRecDepth 100000 in
theorem copy_nil (w : World) : Calls Tryd.prog 7 #[.pointer none] w fun e w' => e = .returned (.pointer none) ∧ w' = w := by
  go_enter Tryd.func7, Tryd.ntmps7
  go_wp2
  go_ret
  exact ⟨rfl, rfl⟩
set_option maxHeartbeats 2000000 in
set_option maxRecDepth 100000 in
theorem copy_at (h : CAt w Q n ve L nx) (hk : Okc n L nx) : Calls Tryd.prog 7 #[.pointer (some ⟨Q, 0, none⟩)] w fun e w' => ∃ Q' ve', e = .returned (.pointer (some ⟨Q', 0, none⟩)) ∧ NewC w w' Q' n ve' L nx := by
  have hD : Below w.heap.size w w.drew := below_drawn 1
  have hBD : CAt w.drew Q n ve L nx := h.later hD
  have HS : Hid (Stands w.drew (some ⟨Q, 0, none⟩) L) := hBD.stands hk
  have HD : Hid (Below w.heap.size w w.drew) := hD
  have HSZ : Hid (w.drew.heap.size = w.heap.size) := rfl
  have HC : Hid (∀ W, Below w.drew.heap.size w.drew W → W.cell? ⟨Q, 0, none⟩ = some (.int .i64 n) ∧ W.cell? ⟨Q, 2, none⟩ = some (.int .u64 nx)) := fun W hW => ⟨(hBD.later hW).c0, (hBD.later hW).c2⟩
  clear h hk hD hBD
  go_enter Tryd.func7, Tryd.ntmps7
  go_wp2_with fail
  refine wp_region_noPanic ?_
  refine wp_region_held_drew (S := fun W => Below w.drew.heap.size w.drew W) (by kernel_rfl) (Below.refl _ _) (fun hHeld => ?_)
  generalize w.drew = wD at *
  refine wpAnyH_take (i := 0) (v := ?va1) (by simp; rfl) (by kernel_rfl) (by kernel_rfl) (by kernel_rfl) (fun _ _ _ h => h) (Or.inl ⟨by rfl, ?ya1⟩) hHeld ?ra1
  case ya1 => intro w hSw; clear hSw; go_simp; with_reducible rfl
  simp only [Act.put, List.setIfInBounds_toArray, List.set_cons_zero, List.set_cons_succ]
  refine wpAnyH_take (i := 1) (v := ?va2) (by simp; rfl) (by kernel_rfl) (by kernel_rfl) (by kernel_rfl) (fun _ _ _ h => h) (Or.inl ⟨by rfl, ?ya2⟩) hHeld ?ra2
  case ya2 => intro w hSw; clear hSw; go_simp; with_reducible rfl
  simp only [Act.put, List.setIfInBounds_toArray, List.set_cons_zero, List.set_cons_succ]
  refine wpAnyH_take (i := 2) (v := ?va3) (by simp; rfl) (by kernel_rfl) (by kernel_rfl) (by kernel_rfl) (fun _ _ _ h => h) (Or.inl ⟨by rfl, ?ya3⟩) hHeld ?ra3
  case ya3 => intro w hSw; clear hSw; go_simp; with_reducible rfl
  simp only [Act.put, List.setIfInBounds_toArray, List.set_cons_zero, List.set_cons_succ]
  refine wpAnyH_take (i := 3) (v := ?va4) (by simp; rfl) (by kernel_rfl) (by kernel_rfl) (by kernel_rfl) (fun _ _ _ h => h) (Or.inl ⟨by rfl, ?ya4⟩) hHeld ?ra4
  case ya4 => intro w hSw; obtain ⟨z0, z2⟩ := HC.out w hSw; clear hSw; go_simp; with_reducible rfl
  simp only [Act.put, List.setIfInBounds_toArray, List.set_cons_zero, List.set_cons_succ]
  refine wpAnyH_take (i := 4) (v := ?va5) (by simp; rfl) (by kernel_rfl) (by kernel_rfl) (by kernel_rfl) (fun _ _ _ h => h) (Or.inl ⟨by rfl, ?ya5⟩) hHeld ?ra5
  case ya5 => intro w hSw; clear hSw; go_simp; with_reducible rfl
  simp only [Act.put, List.setIfInBounds_toArray, List.set_cons_zero, List.set_cons_succ]
  refine wpAnyH_take (i := 6) (v := ?va6) (by simp; rfl) (by kernel_rfl) (by kernel_rfl) (by kernel_rfl) (fun _ _ _ h => h) (Or.inl ⟨by rfl, ?ya6⟩) hHeld ?ra6
  case ya6 => intro w hSw; clear hSw; go_simp; with_reducible rfl
  simp only [Act.put, List.setIfInBounds_toArray, List.set_cons_zero, List.set_cons_succ]
  refine wpAnyH_take (i := 7) (v := ?va7) (by simp; rfl) (by kernel_rfl) (by kernel_rfl) (by kernel_rfl) (fun _ _ _ h => h) (Or.inl ⟨by rfl, ?ya7⟩) hHeld ?ra7
  case ya7 => intro w hSw; clear hSw; go_simp; with_reducible rfl
  simp only [Act.put, List.setIfInBounds_toArray, List.set_cons_zero, List.set_cons_succ]
  refine wpAnyH_take (i := 8) (v := ?va8) (by simp; rfl) (by kernel_rfl) (by kernel_rfl) (by kernel_rfl) (fun _ _ _ h => h) (Or.inl ⟨by rfl, ?ya8⟩) hHeld ?ra8
  case ya8 => intro w hSw; clear hSw; go_simp; with_reducible rfl
  simp only [Act.put, List.setIfInBounds_toArray, List.set_cons_zero, List.set_cons_succ]
  refine wpAnyH_take (i := 9) (v := ?va9) (by simp; rfl) (by kernel_rfl) (by kernel_rfl) (by kernel_rfl) (fun _ _ _ h => h) (Or.inl ⟨by rfl, ?ya9⟩) hHeld ?ra9
  case ya9 => intro w hSw; obtain ⟨z0, z2⟩ := HC.out w hSw; clear hSw; go_simp; with_reducible rfl
  simp only [Act.put, List.setIfInBounds_toArray, List.set_cons_zero, List.set_cons_succ]
  refine wpAnyH_ready (rs := [5]) (by kernel_rfl) (by simp) ?_
  refine AllReadyH.cons (by simp; rfl) (fun Kc hKc => ?_) AllReadyH.nil
  go_simp
  refine (entries_any HS.out).mono ?_
  rintro e w1 ⟨v', rfl, ho, hb⟩
  obtain ⟨p2, m2, c2, rfl⟩ : ∃ p2 m2 c2, v' = .slice p2 m2 c2 := by obtain ⟨p2, c2, e2, -, -⟩ := O.own_form ho; exact ⟨p2, _, c2, e2⟩
  have HO : Hid (EOwn 57 w1 wD.heap.size (.slice p2 m2 c2) L ∧ Below wD.heap.size wD w1) := ⟨ho, hb⟩
  refine hKc.out _ _ hb (fun hHeld => ?_)
  clear hKc Kc ho hb
  refine wpAnyH_take (i := 10) (v := ?va10) (by simp; rfl) (by kernel_rfl) (by kernel_rfl) (by kernel_rfl) (fun _ _ _ h => h) (Or.inl ⟨by rfl, ?ya10⟩) hHeld ?ra10
  case ya10 => intro w hSw; clear hSw; go_simp; with_reducible rfl
  simp only [Act.put, List.setIfInBounds_toArray, List.set_cons_zero, List.set_cons_succ]
  refine wpAnyH_ready (rs := [11]) (by kernel_rfl) (by simp) ?_
  refine AllReadyH.cons (by simp; rfl) (fun Kc hKc => ?_) AllReadyH.nil
  go_simp
  have HB2 : Hid (Below wD.heap.size wD (w1.alloc (.cells #[.int .i64 n, .slice p2 m2 c2, .int .u64 nx] 69))) := below_then HO.out.2 (below_alloc w1 _)
  refine hKc.out _ _ HB2.out (fun hHeld => ?_)
  clear hKc Kc
  refine wpAnyH_take (i := 12) (v := ?va11) (by simp; rfl) (by kernel_rfl) (by kernel_rfl) (by kernel_rfl) (fun _ _ _ h => h) (Or.inl ⟨by rfl, ?ya11⟩) hHeld ?ra11
  case ya11 => intro w hSw; clear hSw; go_simp; with_reducible rfl
  simp only [Act.put, List.setIfInBounds_toArray, List.set_cons_zero, List.set_cons_succ]
  refine wpAnyH_done (by kernel_rfl) (NoPanic.normal ?_) _
  go_wp2
  go_ret
  refine ⟨w1.heap.size, .slice p2 m2 c2, rfl, ⟨heap_alloc_new w1 _, O.own_later (own_mono HO.out.1 (Nat.zero_le _)) (below_alloc w1 _)⟩, ?_, ?_, fun g hg => ?_⟩
  · exact HD.out.trans (by rw [← HSZ.out]; exact HB2.out)
  · have := HO.out.2.size; rw [HSZ.out] at this; exact this
  · have := (HO.out.1.lt g hg).1; rw [HSZ.out] at this; exact this
end
end Go.Proofs.YthcpnfelnonhnaaDoor
