/-
  Layer 15, the library's sort at []uint64: siftDown, heapSort, reverseRange.
-/
import Derived.Test.YtkgjmejpbklabaaSa
import Derived.BigRegion
namespace Go.Proofs.Ytkgjmejpbklabaa
open Go.RowKit

open Go.Sort

/-- which child is looked at -/
def Kid (hi first root : Nat) (d : Array Int) (c : Nat) : Prop :=
  (c = 2 * root + 2 ∧ 2 * root + 2 < hi ∧ ltInt d[first + (2 * root + 1)]! d[first + (2 * root + 1) + 1]! = true) ∨ (c = 2 * root + 1 ∧ (2 * root + 2 < hi → ltInt d[first + (2 * root + 1)]! d[first + (2 * root + 1) + 1]! = false))
theorem sift_none {hi first root : Nat} {d : Array Int} (h : hi ≤ 2 * root + 1) : siftDown ltInt hi first root d = d := by rw [siftDown, dif_pos h]
theorem sift_stop {hi first root c : Nat} {d : Array Int} (h : ¬ hi ≤ 2 * root + 1) (hc : Kid hi first root d c) (hl : ltInt d[first + root]! d[first + c]! = false) : siftDown ltInt hi first root d = d := by
  rw [siftDown, dif_neg h]
  rcases hc with ⟨rfl, h1, h2⟩ | ⟨rfl, h1⟩
  · rw [if_pos (by simp [h1, h2]), if_pos (by simp [hl])]
  · rw [if_neg, if_pos (by simp [hl])]
    intro hc
    simp only [Bool.and_eq_true, decide_eq_true_eq] at hc
    rw [h1 (by omega)] at hc; simp at hc
theorem sift_go {hi first root c : Nat} {d : Array Int} (h : ¬ hi ≤ 2 * root + 1) (hc : Kid hi first root d c) (hl : ltInt d[first + root]! d[first + c]! = true) :
    siftDown ltInt hi first root d = siftDown ltInt hi first c (swp d (first + root) (first + c)) := by
  rw [siftDown, dif_neg h]
  rcases hc with ⟨rfl, h1, h2⟩ | ⟨rfl, h1⟩
  · rw [if_pos (by simp [h1, h2]), if_neg (by simp [hl]), dif_pos h1]
  · rw [if_neg, if_neg (by simp [hl])]
    intro hc
    simp only [Bool.and_eq_true, decide_eq_true_eq] at hc
    rw [h1 (by omega)] at hc; simp at hc
theorem Kid.lt {hi first root c : Nat} {d : Array Int} (h : ¬ hi ≤ 2 * root + 1) (hc : Kid hi first root d c) : c < hi ∧ root < c ∧ c ≤ 2 * root + 2 := by
  rcases hc with ⟨rfl, h1, h2⟩ | ⟨rfl, h1⟩ <;> omega

set_option maxHeartbeats 2000000 in
set_option maxRecDepth 100000 in
theorem sift_at {blk off cap lo hi first : Nat} {d : Array Int} {w : World} (hH : Holds uE w blk off d) (hk : blk < w.heap.size) (hlo : lo ≤ hi) (hb : first + hi ≤ d.size) (hz : d.size < 2305843009213693952) :
    Calls Try.prog 72 #[.slice (some ⟨blk, off, none⟩) d.size cap, .int .i64 lo, .int .i64 hi, .int .i64 first] w fun e w' => e = .returned (.tuple #[]) ∧ SR blk off w (siftDown ltInt hi first lo d) w' := by
  go_enter Try.func72, Try.ntmps72
  go_wp2
  go_loopw [8] (fun v W => ∃ (r : Nat) (D : Array Int), v = .int .i64 r ∧ r ≤ hi ∧ D.size = d.size ∧ Hid (SR blk off w D W) ∧ Hid (siftDown ltInt hi first r D = siftDown ltInt hi first lo d)) (fun v _ => hi - (intV v).toNat)
  case atStart => exact ⟨lo, d, rfl, hlo, rfl, SR.self hH, rfl⟩
  case round =>
    obtain ⟨r, D, rfl, hr, hs, HS, HO⟩ := hrel
    obtain ⟨G, HG⟩ : ∃ G : Nat → Int, Hid (∀ t, G t = D[t]!) := ⟨fun t => D[t]!, fun _ => rfl⟩
    have hcw : ∀ t, t < d.size → wr.cell? ⟨blk, off + t, none⟩ = some (.int .u64 (G t)) := fun t ht => by rw [HG.out]; exact HS.out.cell hH hk hs t ht
    have hfw : ∀ t, t < d.size → wr.frozen? ⟨blk, off + t, none⟩ = false := fun t ht => HS.out.frz hH hk t ht
    by_cases hn : hi ≤ 2 * r + 1
    · go_wp2
      go_end0
      exact ⟨rfl, by rw [← HO.out, sift_none hn]; exact HS.out⟩
    · have rest : ∀ (c : Nat), Hid (Kid hi first r D c) → Hid (c < hi ∧ r < c ∧ c ≤ 2 * r + 2) := fun c h => Kid.lt hn h.out
      have hI : 2 * (r : Int) + 1 < (hi : Int) := by omega
      have hJ : (first : Int) + (hi : Int) ≤ (d.size : Int) := by omega
      by_cases hc2 : 2 * r + 2 < hi
      · have hd : decide (2 * (r : Int) + 1 + 1 < (hi : Int)) = true := decide_eq_true (by omega)
        have hd2 : 2 * (r : Int) + 1 + 1 < (hi : Int) := by omega
        go_wp2
        go_quiet (first | (go_at_call 55; refine Calls.quiet_of_same (less_is _ _ _)))
        go_wp2
        · have hl : ltInt (G (first + 2 * r + 1)) (G (first + 2 * r + 2)) = true := by assumption
          obtain ⟨c, hc⟩ : ∃ c, c = 2 * r + 2 := ⟨_, rfl⟩
          have HK : Hid (Kid hi first r D c) := .inl ⟨hc, hc2, by rw [← HG.out, ← HG.out]; exact hl⟩
          rw [show (2 * (r : Int) + 1 + 1) = (c : Int) by omega]
          clear hc hd hd2 hl
          have hcl := (rest c HK).out
          have hcI : (first : Int) + (c : Int) < (d.size : Int) := by omega
          have hrI : (first : Int) + (r : Int) < (d.size : Int) := by omega
          have hcN : first + c < d.size := by omega
          have hrN : first + r < d.size := by omega
          have hcr : r < c := by omega
          obtain ⟨W2, hW2⟩ : ∃ W2, W2 = wr.drewN nq := ⟨_, rfl⟩
          have HS2 : Hid (SR blk off w D W2) := by rw [hW2]; exact HS.out.draws _
          rw [← hW2]
          clear rest hcw hfw HS hW2 nq
          have hcw2 : ∀ t, t < d.size → W2.cell? ⟨blk, off + t, none⟩ = some (.int .u64 (G t)) := fun t ht => by rw [HG.out]; exact HS2.out.cell hH hk hs t ht
          have hfw2 : ∀ t, t < d.size → W2.frozen? ⟨blk, off + t, none⟩ = false := fun t ht => HS2.out.frz hH hk t ht
          go_quiet (first | (go_at_call 55; refine Calls.quiet_of_same (less_is _ _ _)))
          go_wp2
          all_goals first
            | (have hl0 : (!ltInt (G (first + r)) (G (first + c))) = true := by assumption
               have hl : ltInt (G (first + r)) (G (first + c)) = false := by simpa using hl0
               (try simp only [Exit.inBlock, Exit.then])
               refine bodyPost_ret (results_none rfl _ _ _) rfl ?_
               exact ⟨rfl, by rw [← HO.out, sift_stop hn HK.out (by rw [← HG.out, ← HG.out]; exact hl)]; exact HS2.out.draws _⟩)
            | (have hl0 : (!ltInt (G (first + r)) (G (first + c))) = false := by assumption
               have hl : ltInt (G (first + r)) (G (first + c)) = true := by simpa using hl0
               go_region
               all_goals go_wp2
               go_roundw
               case rel =>
                 refine ⟨c, swp D (first + r) (first + c), rfl, by omega, by rw [size_swp]; exact hs, ?_, ?_⟩
                 · exact HS2.out.swapG HG.out _ (first + r) (first + c) (by omega) (by omega)
                 · show _ = _
                   rw [← HO.out, sift_go hn HK.out (by rw [← HG.out, ← HG.out]; exact hl)]
               case measure => simp [intV]; omega)
        · have hl : ltInt (G (first + 2 * r + 1)) (G (first + 2 * r + 2)) = false := by assumption
          obtain ⟨c, hc⟩ : ∃ c, c = 2 * r + 1 := ⟨_, rfl⟩
          have HK : Hid (Kid hi first r D c) := .inr ⟨hc, fun _ => by rw [← HG.out, ← HG.out]; exact hl⟩
          rw [show (2 * (r : Int) + 1) = (c : Int) by omega]
          clear hc hd hd2 hl
          have hcl := (rest c HK).out
          have hcI : (first : Int) + (c : Int) < (d.size : Int) := by omega
          have hrI : (first : Int) + (r : Int) < (d.size : Int) := by omega
          have hcN : first + c < d.size := by omega
          have hrN : first + r < d.size := by omega
          have hcr : r < c := by omega
          obtain ⟨W2, hW2⟩ : ∃ W2, W2 = wr.drewN nq := ⟨_, rfl⟩
          have HS2 : Hid (SR blk off w D W2) := by rw [hW2]; exact HS.out.draws _
          rw [← hW2]
          clear rest hcw hfw HS hW2 nq
          have hcw2 : ∀ t, t < d.size → W2.cell? ⟨blk, off + t, none⟩ = some (.int .u64 (G t)) := fun t ht => by rw [HG.out]; exact HS2.out.cell hH hk hs t ht
          have hfw2 : ∀ t, t < d.size → W2.frozen? ⟨blk, off + t, none⟩ = false := fun t ht => HS2.out.frz hH hk t ht
          go_quiet (first | (go_at_call 55; refine Calls.quiet_of_same (less_is _ _ _)))
          go_wp2
          all_goals first
            | (have hl0 : (!ltInt (G (first + r)) (G (first + c))) = true := by assumption
               have hl : ltInt (G (first + r)) (G (first + c)) = false := by simpa using hl0
               (try simp only [Exit.inBlock, Exit.then])
               refine bodyPost_ret (results_none rfl _ _ _) rfl ?_
               exact ⟨rfl, by rw [← HO.out, sift_stop hn HK.out (by rw [← HG.out, ← HG.out]; exact hl)]; exact HS2.out.draws _⟩)
            | (have hl0 : (!ltInt (G (first + r)) (G (first + c))) = false := by assumption
               have hl : ltInt (G (first + r)) (G (first + c)) = true := by simpa using hl0
               go_region
               all_goals go_wp2
               go_roundw
               case rel =>
                 refine ⟨c, swp D (first + r) (first + c), rfl, by omega, by rw [size_swp]; exact hs, ?_, ?_⟩
                 · exact HS2.out.swapG HG.out _ (first + r) (first + c) (by omega) (by omega)
                 · show _ = _
                   rw [← HO.out, sift_go hn HK.out (by rw [← HG.out, ← HG.out]; exact hl)]
               case measure => simp [intV]; omega)
      · have hd : decide (2 * (r : Int) + 1 + 1 < (hi : Int)) = false := decide_eq_false (by omega)
        go_wp2
        go_quiet (first | (go_at_call 55; refine Calls.quiet_of_same (less_is _ _ _)))
        go_wp2
        obtain ⟨c, hc⟩ : ∃ c, c = 2 * r + 1 := ⟨_, rfl⟩
        have HK : Hid (Kid hi first r D c) := .inr ⟨hc, fun h => absurd h hc2⟩
        rw [show (2 * (r : Int) + 1) = (c : Int) by omega]
        clear hc hd
        have hcl := (rest c HK).out
        have hcI : (first : Int) + (c : Int) < (d.size : Int) := by omega
        have hrI : (first : Int) + (r : Int) < (d.size : Int) := by omega
        have hcN : first + c < d.size := by omega
        have hrN : first + r < d.size := by omega
        have hcr : r < c := by omega
        obtain ⟨W2, hW2⟩ : ∃ W2, W2 = wr.drewN nq := ⟨_, rfl⟩
        have HS2 : Hid (SR blk off w D W2) := by rw [hW2]; exact HS.out.draws _
        rw [← hW2]
        clear rest hcw hfw HS hW2 nq
        have hcw2 : ∀ t, t < d.size → W2.cell? ⟨blk, off + t, none⟩ = some (.int .u64 (G t)) := fun t ht => by rw [HG.out]; exact HS2.out.cell hH hk hs t ht
        have hfw2 : ∀ t, t < d.size → W2.frozen? ⟨blk, off + t, none⟩ = false := fun t ht => HS2.out.frz hH hk t ht
        go_quiet (first | (go_at_call 55; refine Calls.quiet_of_same (less_is _ _ _)))
        go_wp2
        all_goals first
          | (have hl0 : (!ltInt (G (first + r)) (G (first + c))) = true := by assumption
             have hl : ltInt (G (first + r)) (G (first + c)) = false := by simpa using hl0
             (try simp only [Exit.inBlock, Exit.then])
             refine bodyPost_ret (results_none rfl _ _ _) rfl ?_
             exact ⟨rfl, by rw [← HO.out, sift_stop hn HK.out (by rw [← HG.out, ← HG.out]; exact hl)]; exact HS2.out.draws _⟩)
          | (have hl0 : (!ltInt (G (first + r)) (G (first + c))) = false := by assumption
             have hl : ltInt (G (first + r)) (G (first + c)) = true := by simpa using hl0
             go_region
             all_goals go_wp2
             go_roundw
             case rel =>
               refine ⟨c, swp D (first + r) (first + c), rfl, by omega, by rw [size_swp]; exact hs, ?_, ?_⟩
               · exact HS2.out.swapG HG.out _ (first + r) (first + c) (by omega) (by omega)
               · show _ = _
                 rw [← HO.out, sift_go hn HK.out (by rw [← HG.out, ← HG.out]; exact hl)]
             case measure => simp [intV]; omega)

theorem sift_n {blk off cap lo hi first n : Nat} {d : Array Int} {w : World} (hN : d.size = n) (hH : Holds uE w blk off d) (hk : blk < w.heap.size) (hlo : lo ≤ hi) (hb : first + hi ≤ n) (hz : n < 2305843009213693952) :
    Calls Try.prog 72 #[.slice (some ⟨blk, off, none⟩) n cap, .int .i64 lo, .int .i64 hi, .int .i64 first] w fun e w' => e = .returned (.tuple #[]) ∧ SR blk off w (siftDown ltInt hi first lo d) w' := by
  subst hN; exact sift_at hH hk hlo hb hz

theorem build_go {hi first k : Nat} {d : Array Int} : heapBuild ltInt hi first (k + 1) d = heapBuild ltInt hi first k (siftDown ltInt hi first k d) := rfl
theorem pop_go {first k : Nat} {d : Array Int} : heapPop ltInt first (k + 1) d = heapPop ltInt first k (siftDown ltInt k first 0 (swp d first (first + k))) := rfl
theorem sift_size {hi first root : Nat} {d : Array Int} : (siftDown ltInt hi first root d).size = d.size := by
  suffices h : ∀ (n root : Nat) (d : Array Int), hi - root ≤ n → (siftDown ltInt hi first root d).size = d.size from h _ root d (Nat.le_refl _)
  intro n
  induction n with
  | zero => intro root d h; rw [sift_none (by omega)]
  | succ n ih =>
    intro root d h
    by_cases h0 : hi ≤ 2 * root + 1
    · rw [sift_none h0]
    · have hc : ∃ c, Kid hi first root d c := by
        by_cases h1 : 2 * root + 2 < hi ∧ ltInt d[first + (2 * root + 1)]! d[first + (2 * root + 1) + 1]! = true
        · exact ⟨_, .inl ⟨rfl, h1.1, h1.2⟩⟩
        · refine ⟨_, .inr ⟨rfl, fun h2 => ?_⟩⟩
          cases h3 : ltInt d[first + (2 * root + 1)]! d[first + (2 * root + 1) + 1]! with
          | false => rfl
          | true => exact absurd ⟨h2, h3⟩ h1
      obtain ⟨c, hc⟩ := hc
      have := hc.lt h0
      cases hl : ltInt d[first + root]! d[first + c]! with
      | false => rw [sift_stop h0 hc hl]
      | true => rw [sift_go h0 hc hl, ih c _ (by omega), size_swp]

set_option maxHeartbeats 2000000 in
set_option maxRecDepth 100000 in
theorem heap_at {blk off cap a b : Nat} {d : Array Int} {w : World} (hH : Holds uE w blk off d) (hk : blk < w.heap.size) (hab : a < b) (hb : b ≤ d.size) (hz : d.size < 2305843009213693952) :
    Calls Try.prog 50 #[.slice (some ⟨blk, off, none⟩) d.size cap, .int .i64 a, .int .i64 b] w fun e w' => e = .returned (.tuple #[]) ∧ SR blk off w (heapSort ltInt d a b) w' := by
  obtain ⟨n, hn⟩ : ∃ n, n = b - a := ⟨_, rfl⟩
  have hn0 : 0 < n := by omega
  have hnb : a + n = b := by omega
  have HE : Hid (heapSort ltInt d a b = heapPop ltInt a n (heapBuild ltInt n a ((n - 1) / 2 + 1) d)) := by
    show _ = _
    unfold heapSort; rw [hn]
  clear hn
  go_enter Try.func50, Try.ntmps50
  go_wp2
  rw [show ((b : Int) - (a : Int)) = (n : Int) by omega]
  go_loopw [9] (fun v W => ∃ (k : Nat) (D : Array Int), v = .int .i64 ((k : Int) - 1) ∧ k ≤ (n - 1) / 2 + 1 ∧ D.size = d.size ∧ Hid (SR blk off w D W) ∧ Hid (heapBuild ltInt n a k D = heapBuild ltInt n a ((n - 1) / 2 + 1) d)) (fun v _ => (intV v + 1).toNat)
  case atStart => exact ⟨(n - 1) / 2 + 1, d, by congr 1; omega, Nat.le_refl _, rfl, SR.self hH, rfl⟩
  case round =>
    obtain ⟨k, D, rfl, hkn, hs, HS, HO⟩ := hrel
    cases k with
    | zero =>
      go_wp2
      have HB : Hid (heapBuild ltInt n a ((n - 1) / 2 + 1) d = D) := by show _ = _; rw [← HO.out]; rfl
      clear HO
      rw [show (((0 : Nat) : Int) - 1) = -1 from rfl]
      go_loopw [10] (fun v W => ∃ (k : Nat) (F : Array Int), v = .int .i64 ((k : Int) - 1) ∧ k ≤ n ∧ F.size = d.size ∧ Hid (SR blk off w F W) ∧ Hid (heapPop ltInt a k F = heapPop ltInt a n D)) (fun v _ => (intV v + 1).toNat)
      case atStart => exact ⟨n, D, rfl, Nat.le_refl _, hs, HS, rfl⟩
      case round =>
        obtain ⟨k, F, rfl, hkn2, hs2, HF, HO⟩ := hrel
        cases k with
        | zero =>
          go_wp2
          go_end0
          exact ⟨rfl, by rw [HE.out, HB.out, ← HO.out]; exact HF.out⟩
        | succ k =>
          obtain ⟨G, HG⟩ : ∃ G : Nat → Int, Hid (∀ t, G t = F[t]!) := ⟨fun t => F[t]!, fun _ => rfl⟩
          have hcw : ∀ t, t < d.size → wr.cell? ⟨blk, off + t, none⟩ = some (.int .u64 (G t)) := fun t ht => by rw [HG.out]; exact HF.out.cell hH hk hs2 t ht
          have hfw : ∀ t, t < d.size → wr.frozen? ⟨blk, off + t, none⟩ = false := fun t ht => HF.out.frz hH hk t ht
          rw [show ((k + 1 : Nat) : Int) - 1 = (k : Int) by omega]
          have hk1 : a + k < d.size := by omega
          have hk2 : (a : Int) + (k : Int) < (d.size : Int) := by omega
          have hk3 : a < d.size := by omega
          go_wp2
          by_cases hk0 : k = 0
          · subst hk0
            go_region
            have HW : Hid (SR blk off w (swp F a (a + 0)) ((wr.setCell ⟨blk, off + a, none⟩ (Value.int .u64 (G (a)))).setCell ⟨blk, off + (a), none⟩ (Value.int .u64 (G a))).drew) := HF.out.swapD HG.out a (a + 0) (by omega) (by omega)
            generalize ((wr.setCell ⟨blk, off + a, none⟩ (Value.int .u64 (G (a)))).setCell ⟨blk, off + (a), none⟩ (Value.int .u64 (G a))).drew = W2 at HW ⊢
            have hs3 : (swp F a (a + 0)).size = d.size := by rw [size_swp]; exact hs2
            go_wp2_with (go_at_call 72; refine (sift_n (lo := 0) (hi := 0) hs3 (HW.out.holds hH hk hs3) (Nat.lt_of_lt_of_le hk HW.out.size) (by omega) (by omega) (by omega)).mono ?_; rintro e w' ⟨rfl, h1⟩; have H1 : Hid (SR blk off W2 (siftDown ltInt 0 a 0 (swp F a (a + 0))) w') := h1; clear h1)
            go_roundw
            case rel => exact ⟨0, siftDown ltInt 0 a 0 (swp F a (a + 0)), rfl, by omega, by rw [sift_size]; exact hs3, HW.out.trans H1.out sift_size, by show _ = _; rw [← HO.out, pop_go]⟩
            case measure => simp [intV]
          · go_region
            have HW : Hid (SR blk off w (swp F a (a + k)) ((wr.setCell ⟨blk, off + a, none⟩ (Value.int .u64 (G (a + k)))).setCell ⟨blk, off + (a + k), none⟩ (Value.int .u64 (G a))).drew) := HF.out.swapD HG.out a (a + k) (by omega) (by omega)
            generalize ((wr.setCell ⟨blk, off + a, none⟩ (Value.int .u64 (G (a + k)))).setCell ⟨blk, off + (a + k), none⟩ (Value.int .u64 (G a))).drew = W2 at HW ⊢
            have hs3 : (swp F a (a + k)).size = d.size := by rw [size_swp]; exact hs2
            go_wp2_with (go_at_call 72; refine (sift_n (lo := 0) hs3 (HW.out.holds hH hk hs3) (Nat.lt_of_lt_of_le hk HW.out.size) (by omega) (by omega) (by omega)).mono ?_; rintro e w' ⟨rfl, h1⟩; have H1 : Hid (SR blk off W2 (siftDown ltInt k a 0 (swp F a (a + k))) w') := h1; clear h1)
            go_roundw
            case rel => exact ⟨k, siftDown ltInt k a 0 (swp F a (a + k)), rfl, by omega, by rw [sift_size]; exact hs3, HW.out.trans H1.out sift_size, by show _ = _; rw [← HO.out, pop_go]⟩
            case measure => simp [intV]
    | succ k =>
      rw [show ((k + 1 : Nat) : Int) - 1 = (k : Int) by omega]
      go_wp2_with (go_at_call 72; refine (sift_n hs (HS.out.holds hH hk hs) (Nat.lt_of_lt_of_le hk HS.out.size) (by omega) (by omega) (by omega)).mono ?_; rintro e w' ⟨rfl, h1⟩; have H1 : Hid (SR blk off wr (siftDown ltInt n a k D) w') := h1; clear h1)
      go_roundw
      case rel => exact ⟨k, siftDown ltInt n a k D, rfl, by omega, by rw [sift_size]; exact hs, HS.out.trans H1.out sift_size, by show _ = _; rw [← HO.out, build_go]⟩
      case measure => simp [intV]
end Go.Proofs.Ytkgjmejpbklabaa
