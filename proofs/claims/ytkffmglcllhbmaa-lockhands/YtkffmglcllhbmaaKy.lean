/-
  Layer 14: what entries tell of nil locks; LockNone.
-/
import Derived.Test.YtkffmglcllhbmaaKw
namespace Go.Proofs.Ytkffmglcllhbmaa
open Go.RowKit

open Go.Shelf
attribute [local go_sem] Oper.semAt_some
theorem bin_all (bT bS : Nat) (w : World) : Sem.run Try.prog (binOp .eql 94 (allV bT bS) .nilFunc) w = .ok (.bool false) w := by kernel_rfl
set_option maxHeartbeats 2000000 in
set_option maxRecDepth 100000 in
theorem entries_nil (w : World) (m : Int) : Calls Try.prog 25 #[nilq, .int .i64 m] w fun e w' => e = .returned (.tuple #[nils, .bool true]) ∧ Below w.heap.size w w' := by
  refine (callsIn_wide (n := 9)).1 ?_
  refine callsIn_of_wp_marks Try.func25 rfl trivial ?_ rfl
  simp only [Try.ntmps25, List.size_toArray, List.length_cons, List.length_nil, Nat.reduceAdd, Nat.reduceSub, Array.replicate_succ, Array.replicate_zero, List.push_toArray, List.append_toArray, List.nil_append, List.cons_append]
  gi_wp2_with fail
  refine ⟨trivial, (callsIn_wide.2 (allL_nil _)).mono ?_⟩
  rintro e w1 ⟨bT, bS, rfl, hA⟩
  have HA : Hid (AllS ((w.alloc (.cells #[.int .i64 m] 3)).alloc (.cells #[nils] 53)) w1 bT bS nils nils [] (fun _ => none)) := hA
  have bO : Boxed w1 (w.heap.size + 1) 53 nils := by
    have := (Boxed.new (w.alloc (.cells #[.int .i64 m] 3)) 53 nils)
    rw [World.size_alloc] at this
    exact (hA.below.block _ (by simp)).trans this
  have hB1 : Below w.heap.size w w1 := below_then (below_alloc _ _) (below_then (below_alloc _ _) hA.below)
  clear hA
  gi_wp2
  rw [bin_all]
  gi_wp2
  have hs1 := HA.out.below.size
  simp only [World.size_alloc] at hs1
  refine range_t (F := Fence.wide) (n := 9) (P := Try.prog) rfl (by decide) (gf := 58) (lb := #[.pointer (some ⟨bT, 0, none⟩), .pointer (some ⟨bS, 0, none⟩)]) rfl trivial (enters_of Try.func58 (by kernel_rfl) rfl)
    (allL_seq HA.out (b0 := w.heap.size + 1) (by simp) (by simp) (by simp) (9 - 1) (by decide)) Kx.trans (fun W l o o' hl h1 h2 => Kx.putObj W l o o' hl h1 h2) (Below.refl _ _) (fun _ => rfl)
    (fun pre W => pre = [] ∧ (Boxed W (w.heap.size + 1) 53 nils ∧ Below w.heap.size w W)) (fun _ _ _ => False) ?hI (fun c => ownFrom_pure _ _) ⟨rfl, bO, hB1⟩ (fun _ _ _ => True) (fun _ _ => ownFrom_pure _ _) ?assign ?body ?done ?stop
  case hI => exact OwnFrom.and (ownFrom_pure _ _) (OwnFrom.and (own_box _ _ _ _) (ownFrom_below (Nat.le_refl _) (by omega)))
  case assign =>
    rintro l pre x W0 W K ⟨rfl, hO, hB⟩ hb hT hK
    have HK : Hid (K = K) := rfl
    gi_wp2
    refine hK _ _ (KeepsFrom.refl _ _) (Kx.refl _ _ _) ⟨by simp, (hb.block _ hO.lt).trans hO, hB.trans (hb.mono hB.size)⟩ trivial
  case body =>
    rintro l pre x a' W hi ha hlt
    simp at hlt
  case done =>
    rintro D ys W hD hSt ⟨rfl, hO, hB⟩ hK
    have hc := hO.cell
    have HZ : Hid (Below w.heap.size w (W.putObj D (.deferred none))) := hB.trans (belowK_b (w := w) (Nat.le_refl _) _ D _ _ (by omega) hK rfl rfl)
    clear hB hO
    gi_wp2
    refine ⟨by simp, .inl ⟨_, _, rfl, run_takeDeferred hK, ?_⟩⟩
    exact ⟨_, by simp [results, Try.results25, go_sem], rfl, HZ.out⟩
  case stop =>
    rintro D c pre W hD hpre hf hK
    exact hf.elim
set_option maxHeartbeats 2000000 in
set_option maxRecDepth 100000 in
theorem lockNone_any (w : World) (t b : Int) : Calls Try.prog 6 #[.int .u64 t, .int .i64 b] w fun e w' => e = .returned (.bool true) ∧ Below w.heap.size w w' := by
  go_enter Try.func6, Try.ntmps6
  go_wp2_with (go_at_call 13; refine (num_is _ _).mono ?_; rintro e w' ⟨rfl, rfl⟩)
  refine (next_nil _ _).mono ?_
  rintro e w1 ⟨rfl, hb⟩
  have HB1 : Hid (Below w.heap.size w w1) := hb
  clear hb
  go_wp2_with (go_at_call 13; refine (num_is _ _).mono ?_; rintro e w' ⟨rfl, rfl⟩)
  refine (take_nil _ _).mono ?_
  rintro e w2 ⟨rfl, hb⟩
  have HB2 : Hid (Below w.heap.size w w2) := below_then HB1.out hb
  clear hb
  clear HB1
  go_wp2_with (go_at_call 13; refine (num_is _ _).mono ?_; rintro e w' ⟨rfl, rfl⟩)
  refine (dropL_nil _ _).mono ?_
  rintro e w3 ⟨rfl, hb⟩
  have HB3 : Hid (Below w.heap.size w w3) := below_then HB2.out hb
  clear hb
  clear HB2
  go_wp2_with (go_at_call 13; refine (num_is _ _).mono ?_; rintro e w' ⟨rfl, rfl⟩)
  refine (holder_nil _ _).mono ?_
  rintro e w4 ⟨rfl, hb⟩
  have HB4 : Hid (Below w.heap.size w w4) := below_then HB3.out hb
  clear hb
  clear HB3
  go_wp2_with (go_at_call 13; refine (num_is _ _).mono ?_; rintro e w' ⟨rfl, rfl⟩)
  refine (entries_nil _ _).mono ?_
  rintro e w5 ⟨rfl, hb⟩
  have HB5 : Hid (Below w.heap.size w w5) := below_then HB4.out hb
  clear hb
  clear HB4
  go_wp2_with (go_at_call 13; refine (num_is _ _).mono ?_; rintro e w' ⟨rfl, rfl⟩)
  refine (lay_nil _ _ _).mono ?_
  rintro e w6 ⟨rfl, rfl⟩
  have HB6 : Hid (Below w.heap.size w _) := below_then HB5.out (below_alloc _ (.cells #[.int .i64 0] 3))
  clear HB5
  go_wp2_with (go_at_call 13; refine (num_is _ _).mono ?_; rintro e w' ⟨rfl, rfl⟩)
  refine (ready_nil _ _).mono ?_
  rintro e w7 ⟨rfl, hb⟩
  have HB7 : Hid (Below w.heap.size w w7) := below_then HB6.out hb
  clear hb
  clear HB6
  go_wp2_with (go_at_call 13; refine (num_is _ _).mono ?_; rintro e w' ⟨rfl, rfl⟩)
  refine (queue_nil _ _).mono ?_
  rintro e w8 ⟨v', rfl, hm⟩
  obtain ⟨pq, cq, rfl, -⟩ := own_shape hm.own
  have hb := hm.below
  clear hm
  have HB8 : Hid (Below w.heap.size w w8) := below_then HB7.out hb
  clear hb
  clear HB7
  go_wp2_with (go_at_call 13; refine (num_is _ _).mono ?_; rintro e w' ⟨rfl, rfl⟩)
  refine (held_nil _ _).mono ?_
  rintro e w9 ⟨rfl, hb⟩
  have HB9 : Hid (Below w.heap.size w w9) := below_then HB8.out hb
  clear hb
  clear HB8
  go_wp2_with (go_at_call 13; refine (num_is _ _).mono ?_; rintro e w' ⟨rfl, rfl⟩)
  refine (copyL_nil _).mono ?_
  rintro e w10 ⟨rfl, rfl⟩
  have HB10 : Hid (Below w.heap.size w _) := HB9.out
  clear HB9
  go_wp2_with (go_at_call 13; refine (num_is _ _).mono ?_; rintro e w' ⟨rfl, rfl⟩)
  refine (awake_any _).mono ?_
  rintro e w11 ⟨rfl, hb⟩
  have HB11 : Hid (Below w.heap.size w w11) := below_then HB10.out hb
  clear hb
  clear HB10
  go_wp2_with (go_at_call 13; refine (num_is _ _).mono ?_; rintro e w' ⟨rfl, rfl⟩)
  go_ret
  exact ⟨rfl, HB11.out⟩
end Go.Proofs.Ytkffmglcllhbmaa
