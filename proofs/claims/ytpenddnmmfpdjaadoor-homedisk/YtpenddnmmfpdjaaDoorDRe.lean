/-
  The document's own disk: Flush, Copy.
-/
import Derived.Test.YtpenddnmmfpdjaaDoorDRd
namespace Go.Proofs.YtpenddnmmfpdjaaDoor
open Go.RowKit
theorem setl_congr {K K' : Nat → Bool} {ws : List Wr} {d : List Int} : ∀ k, (∀ j, j < k → K j = K' j) → setl K ws d k = setl K' ws d k
  | 0, _ => rfl
  | k + 1, h => by
    have ih := setl_congr (ws := ws) (d := d) k (fun j hj => h j (by omega))
    by_cases hk : k < ws.length
    · rw [setl_step K ws d k hk, setl_step K' ws d k hk, ih, h k (by omega)]
    · simp only [setl, List.getElem?_eq_none (show ws.length ≤ k by omega)]; exact ih
def rng (k : Nat) : List Int := (List.range k).map fun (i : Nat) => (i : Int)
theorem rng_succ (k : Nat) : rng (k + 1) = rng k ++ [(k : Int)] := by simp [rng, List.range_succ]
theorem rng_length (k : Nat) : (rng k).length = k := by simp [rng]
theorem rng_mem (n j : Nat) (h : j < n) : keepsK (rng n) j = true := by
  simp only [keepsK, decide_eq_true_eq, rng, List.mem_map, List.mem_range]
  exact ⟨j, h, rfl⟩
set_option maxHeartbeats 2000000 in
set_option maxRecDepth 100000 in
theorem rflush_any {w : World} {S : Nat → Prop} {p n : Nat} {d : List Int} {ws : List Wr} (h : Ref w S p n d ws) (hk : ws.length ≤ 1000) (hS : ∀ k, S k → k < w.heap.size) :
    Calls Tryd.prog 55 #[.pointer (some ⟨p, 0, none⟩)] w fun e w' => e = .returned (.int .i64 ws.length) ∧ Ref w' S p n (settle (fun _ => true) ws d) [] ∧ Kept S w w' := by
  obtain ⟨i0, hi0, hz0, hz1, hz2⟩ := info_parts info3
  have HH : Hid (Ref w S p n d ws) := h
  clear h
  go_enter Tryd.func55, Tryd.ntmps55
  go_wp2
  go_loopw [3, 4] (fun v i wr => ∃ k : Nat, k ≤ ws.length ∧ i = .int .i64 k ∧ Hid (wr.ownsRow w.heap.size 3 1 v k (I64 (rng k)) ∧ Below w.heap.size w wr)) (fun _ i _ => ws.length - (intOf i).toNat)
  case atStart => exact ⟨0, by omega, rfl, World.ownsRow_nil _ _ _ _, Below.refl _ _⟩
  case round =>
    obtain ⟨k, hkl, rfl, HQ⟩ := hrel
    obtain ⟨g, L, cap, v, vs, h1⟩ := HH.out.later HQ.out.2
    have s1 := h1.cell1
    obtain ⟨pw, cw, rfl, _⟩ := own_slice h1.wr
    clear h1
    by_cases hkJ : k < ws.length
    · obtain ⟨pv, cv, rfl, _⟩ := own_slice HQ.out.1
      have hsz := HQ.out.2.size
      go_wp2_with (at_builtin; refine wpList_append_own _ rfl (.tmp 14) (.tmp 16) 71 rfl w.heap.size 3 i0 (.int .i64 0) 1 8 Tryd.underlying71 hi0 hz0 hz1 hz2 rfl (by omega) _ k (I64 (rng k)) rfl (HQ.out.1.alloc _) ⟨wr.heap.size, 0, none⟩ 1 1 [.int .i64 (k : Int)] rfl rfl (cell_one_new _ _ _) (by simp [Value.oneCell']) (by unfold maxLen; omega) (by omega) (by simp; omega) ?_; intro v' w5 hown hgrow _; have HU : Hid (w5.ownsRow w.heap.size 3 1 v' (k + 1) (I64 (rng (k + 1))) ∧ Below w.heap.size w w5) := ⟨by rw [rng_succ, show I64 (rng k ++ [(k : Int)]) = I64 (rng k) ++ [.int .i64 (k : Int)] by simp [I64]]; exact hown, (HQ.out.2.alloc HQ.out.2.size _).grown hgrow (by simp; omega) (fun j hj => (HQ.out.1.lt j hj).1)⟩; clear hown hgrow)
      go_roundw
      case rel => exact ⟨k + 1, by omega, by go_num, HU⟩
      case measure => simp [intOf]; omega
    · obtain rfl : k = ws.length := by omega
      obtain ⟨ap, ac, rfl, iall, _, _, hab⟩ := ints_in HQ.out.1
      have hb := HQ.out.2
      go_wp2_with fail
      refine (rcrash_any (HH.out.later hb) hk ap ws.length ac (rng ws.length) iall (fun b e _ s => by have := hab b e; have := hS _ s; omega) (by omega)).mono ?_
      rintro e w1 ⟨rfl, hd, hkp⟩
      have eF : settle (keepsK (rng ws.length)) ws d = settle (fun _ => true) ws d := by
        unfold settle
        exact setl_congr _ (fun j hj => rng_mem _ j hj)
      rw [eF] at hd
      go_wp2
      go_ret
      exact ⟨rfl, hd, (Kept.of_below hb).trans hkp (fun _ _ h => h)⟩
end Go.Proofs.YtpenddnmmfpdjaaDoor
