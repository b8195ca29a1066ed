/-
  Contracts of layer 1, fourth part: octet.Pad, octet.Blank.
-/
import Derived.Test.YtefnkjajjidfaaaGreatDoorCa
import Derived.Laws.CopyOwn
namespace Go.Proofs.YtefnkjajjidfaaaGreatDoor
open Go.RowKit

theorem size5 : (Tryz.prog.info? 5).map (·.size) = some 1 := by kernel_rfl

set_option maxHeartbeats 400000 in
set_option maxRecDepth 100000 in
theorem pad_input (p : Option Addr) (n c : Nat) (s : Int) (w : World) (hs : s < 0 ∨ 64 < s) :
    Calls Tryz.prog 51 #[.slice p n c, .int .i64 s] w fun e w' => e = .returned (.tuple #[.slice none 0 0, .int .i64 2]) ∧ w = w' := by
  rcases hs with hs | hs
  · go_enter Tryz.func51, Tryz.ntmps51
    go_wp2
    go_ret2
    exact ⟨rfl, rfl⟩
  · have hn : ¬ s < 0 := by omega
    go_enter Tryz.func51, Tryz.ntmps51
    go_wp2
    go_ret2
    exact ⟨rfl, rfl⟩

set_option maxHeartbeats 400000 in
set_option maxRecDepth 100000 in
theorem pad_wide (p : Option Addr) (n c : Nat) (k : Nat) (w : World) (hk : k ≤ 64) (hs : k < n) :
    Calls Tryz.prog 51 #[.slice p n c, .int .i64 k] w fun e w' => e = .returned (.tuple #[.slice none 0 0, .int .i64 10]) ∧ w = w' := by
  go_enter Tryz.func51, Tryz.ntmps51
  go_wp2
  go_ret2
  exact ⟨rfl, rfl⟩

/-- a row of n cells, all of them -/
theorem row_of_full {w : World} {base g n : Nat} {e : TypeId} {xs : List Value} (h : w.ownsRow base e 1 (.slice (some ⟨g, 0, none⟩) n n) n xs) : w.heap[g]? = some (.cells xs.toArray e (0, 0)) := by
  rcases h.2 with ⟨h', _⟩ | ⟨g', cap', cur, h', _, hg, _, _, hsz, htake⟩
  · simp at h'
  · simp only [Value.slice.injEq, Option.some.injEq, Addr.mk.injEq, and_true, true_and] at h'
    obtain ⟨rfl, rfl⟩ := h'
    rw [List.take_of_length_le (by simpa using Nat.le_of_eq hsz)] at htake
    rw [hg, ← htake]

theorem full_of_row {w : World} {base g n : Nat} {e : TypeId} {xs : List Value} (hb : base ≤ g) (hn : xs.length = n) (hm : n ≤ maxLen) (h : w.heap[g]? = some (.cells xs.toArray e (0, 0))) : w.ownsRow base e 1 (.slice (some ⟨g, 0, none⟩) n n) n xs :=
  ⟨by omega, .inr ⟨g, n, xs.toArray, rfl, hb, h, Nat.le_refl _, hm, by simpa using hn, by rw [Nat.mul_one, List.toList_toArray]; exact List.take_of_length_le (by omega)⟩⟩

theorem splice_pad (xs : List Int) (k : Nat) (_h : xs.length ≤ k) : splice (List.replicate k (Value.int .u8 0)) 0 (U8 xs) = U8 (xs ++ List.replicate (k - xs.length) 0) := by
  simp [splice, U8]

theorem ones_u8 (xs : List Int) : ∀ v ∈ U8 xs, v.oneCell' = true := by
  intro u hu; obtain ⟨x, _, rfl⟩ := List.mem_map.1 hu; rfl

theorem BIn.news {w : World} {a : Addr} {n : Nat} {xs : List Int} (h : BIn w (some a) n xs) : ∀ j u, (U8 xs)[j]? = some u → w.cell? (a.add j) = some u := by
  intro j u hj
  have hjn : j < xs.length := by
    have := (List.getElem?_eq_some_iff.1 hj).1
    simpa using this
  rw [h.at j (by have := h.len; omega), ← hj]
  simp [List.getD, List.getElem?_eq_getElem hjn]

theorem BIn.below {B : Nat} {w w' : World} {p : Option Addr} {n : Nat} {xs : List Int} (h : BIn w p n xs) (hb : Below B w w') (hp : ∀ a, p = some a → 0 < n → a.block < B) : BIn w' p n xs := by
  refine ⟨h.len, h.byte, fun h0 => ?_⟩
  obtain ⟨b, o, rfl, hc⟩ := h.cells h0
  refine ⟨b, o, rfl, fun i hi => ?_⟩
  rw [hb.cell (p := ⟨b, o + i, none⟩) (hp ⟨b, o, none⟩ rfl h0)]
  exact hc i hi

theorem BIn.lt {w : World} {a : Addr} {n : Nat} {xs : List Int} (h : BIn w (some a) n xs) (h0 : 0 < n) : a.block < w.heap.size := by
  obtain ⟨b, o, e, hc⟩ := h.cells h0
  simp only [Option.some.injEq] at e
  subst e
  exact World.block_lt_of_cell? w _ (hc 0 h0)

theorem BIn.later {w w' : World} {p : Option Addr} {n : Nat} {xs : List Int} (h : BIn w p n xs) (hb : Below w.heap.size w w') : BIn w' p n xs :=
  h.below hb (fun a e h0 => by subst e; exact h.lt h0)

set_option maxHeartbeats 1000000 in
set_option maxRecDepth 100000 in
theorem pad_ok (p : Option Addr) (n c : Nat) (xs : List Int) (k : Nat) (w : World) (hk : k ≤ 64) (hs : n ≤ k) (h : BIn w p n xs) :
    Calls Tryz.prog 51 #[.slice p n c, .int .i64 k] w fun e w' => ∃ v', e = .returned (.tuple #[v', .int .i64 0]) ∧ w'.ownsRow w.heap.size 5 1 v' k (U8 (xs ++ List.replicate (k - n) 0)) ∧ Below w.heap.size w w' := by
  obtain ⟨i0, hi, hz0, hz1, hz2⟩ := info_parts info5
  go_enter Tryz.func51, Tryz.ntmps51
  go_wp2_with (at_make; refine wpList_make_full _ rfl _ _ 24 rfl w.heap.size 5 i0 (.int .u8 0) 1 Tryz.underlying24 hi hz0 hz1 .i64 .i64 _ _ k rfl rfl rfl rfl ?b2 ?b3 ?b4 ?_)
  case b2 => rw [hz2]; omega
  case b3 => unfold maxLen; omega
  case b4 => simp
  intro w1 hown hgrow
  rw [toList_madeCells_one] at hown
  have hb := (Below.refl w.heap.size w).grown hgrow (Nat.le_refl _) (by intro k hk; cases hk)
  have hg := row_of_full hown
  have h1 := h.later hb
  have HG : Hid (_) := hg
  have HB : Hid (_) := hb
  have HH : Hid (BIn w1 p n xs) := h1
  clear hgrow hown hg hb h1
  have HN : Hid ((U8 xs).length = Nat.min n k) := by show _ = min n k; rw [Nat.min_eq_left hs]; simp [U8, HH.out.len]
  have HF : Hid (0 + (U8 xs).length ≤ (List.replicate k (Value.int .u8 0)).length) := by show _ ≤ _; simp [U8, HH.out.len]; omega
  have HP : Hid (0 < (U8 xs).length → some (⟨w.heap.size, 0, none⟩ : Addr) = some ⟨w.heap.size, 0, none⟩ ∧ ∃ ad, p = some ad ∧ ∀ j v, (U8 xs)[j]? = some v → w1.cell? (ad.add j) = some v) := by
    intro h0
    have h0' : 0 < n := by simpa [U8, HH.out.len] using h0
    obtain ⟨b, o, e, hc⟩ := HH.out.cells h0'
    refine ⟨rfl, ⟨b, o, none⟩, e, ?_⟩
    have h2 := HH.out
    rw [e] at h2
    exact h2.news
  go_wp2_with (refine wpList_copy_splice rfl (.tmp 19) (.tmp 20) 24 24 rfl 5 Tryz.underlying24 size5 (some ⟨w.heap.size, 0, none⟩) p k k n c rfl rfl w.heap.size 0 (List.replicate k (.int .u8 0)) 5 HG.out (U8 xs) HN.out HP.out HF.out (ones_u8 xs) w.heap.size w HB.out (Nat.le_refl _) ?_)
  intro w2 hg2 hb2
  go_wp2
  go_ret2
  refine ⟨_, rfl, full_of_row (Nat.le_refl _) ?_ ?_ ?_, hb2⟩
  · simp [U8, HH.out.len]; omega
  · unfold maxLen; omega
  · have := hg2.out
    rw [splice_pad xs k (by rw [HH.out.len]; exact hs), HH.out.len] at this
    exact this

theorem pad_any (p : Option Addr) (n c : Nat) (xs : List Int) (s : Int) (w : World) (h : BIn w p n xs) :
    Calls Tryz.prog 51 #[.slice p n c, .int .i64 s] w fun e w' => ∃ v', e = .returned (.tuple #[v', .int .i64 (padS xs s).2]) ∧
      w'.ownsRow w.heap.size 5 1 v' (padS xs s).1.length (U8 (padS xs s).1) ∧ Below w.heap.size w w' := by
  unfold padS
  by_cases hs : s < 0 ∨ 64 < s
  · rw [if_pos hs]
    refine (pad_input p n c s w hs).mono ?_
    rintro e w' ⟨rfl, rfl⟩
    exact ⟨_, rfl, World.ownsRow_nil _ _ _ _, Below.refl _ _⟩
  · rw [if_neg hs]
    obtain ⟨k, rfl⟩ := Int.eq_ofNat_of_zero_le (show 0 ≤ s by omega)
    rw [Int.toNat_natCast, h.len]
    by_cases hk : (k : Int) < n
    · rw [if_pos hk]
      refine (pad_wide p n c k w (by omega) (by omega)).mono ?_
      rintro e w' ⟨rfl, rfl⟩
      exact ⟨_, rfl, World.ownsRow_nil _ _ _ _, Below.refl _ _⟩
    · rw [if_neg hk]
      have e : (xs ++ List.replicate (k - n) 0).length = k := by simp [h.len]; omega
      rw [e]
      exact pad_ok p n c xs k w (by omega) (by omega) h

end Go.Proofs.YtefnkjajjidfaaaGreatDoor
