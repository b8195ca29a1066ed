/-
  Layer 5: contracts of the statements' own helpers: Own, Roomy, Held.
-/
import Derived.Test.YthgkdpniaednaaaBRa
namespace Go.Proofs.Ythgkdpniaednaaa.B
open Go.RowKit
set_option maxHeartbeats 1000000 in
set_option maxRecDepth 100000 in
/-- the same numbers in a list of their own -/
theorem own_is (p : Option Addr) (n c : Nat) (xs : List Int) (w : World) (h : IIn w p n xs) (hp : p = none → c = 0) (hnc : n ≤ c) (hbig : n + 80 ≤ 17592186044416) :
    Calls Try.prog 29 #[.slice p n c] w fun e w' => ∃ q d, e = .returned (.slice q n d) ∧ Made w w' q n d xs := by
  obtain ⟨i0, hi, hz0, hz1, hz2⟩ := info_parts info3
  have HL : Hid ((I64 xs).length = n) := by show _ = _; rw [List.length_map, h.len]
  have HN : Hid (∀ ad, p = some ad → ∀ j u, (I64 xs)[j]? = some u → (w.alloc (.cells #[] 3)).cell? (ad.add j) = some u) := (h.later (below_alloc w _)).newsAny
  have HM : Hid ((w.alloc (.cells #[] 3)).ownsRow w.heap.size 3 1 (.slice (some ⟨w.heap.size, 0, none⟩) 0 0) 0 []) := World.ownsRow_made w #[] 0 (Nat.le_refl _) (Nat.zero_le _) rfl
  clear h
  go_enter Try.func29, Try.ntmps29
  go_wp2_with (at_builtin; refine wpList_append_any _ rfl _ _ 22 rfl w.heap.size 3 i0 (.int .i64 0) 8 Try.underlying22 hi hz0 hz1 hz2 rfl _ 0 [] rfl HM.out p n c (I64 xs) rfl hp hnc HL.out HN.out (ones_i64 xs) (by unfold maxLen; omega) (by omega) (by simp) ?_)
  intro v w1 hown hgrow
  have hO : w1.ownsRow w.heap.size 3 1 v n (I64 xs) := by simpa using hown
  have hB : Below w.heap.size w w1 := ((Below.refl _ w).alloc (Nat.le_refl _) _).grown hgrow (by simp) (by intro k hk; simp [Value.ownBlock] at hk; omega)
  obtain ⟨q, d, rfl, hM⟩ := made_of hO hB
  have HM2 : Hid (Made w w1 q n d xs) := hM
  clear hO hown hgrow HN HM hp hM hB
  go_wp2
  go_ret
  exact ⟨q, d, rfl, HM2.out⟩
/-- numbers with marked room behind them, in a block of their own from B on -/
structure Room (w : World) (B g n cap : Nat) (xs : List Int) : Prop where
  own : w.ownsRow B 3 1 (.slice (some ⟨g, 0, none⟩) (n + 2) cap) (n + 2) (I64 (xs ++ [7777, 8888]))
  len : xs.length = n
  cap2 : n + 2 ≤ cap
theorem Room.later {w w' : World} {B g n cap : Nat} {ss : List Int} (h : Room w B g n cap ss) (hb : Below w.heap.size w w') : Room w' B g n cap ss := ⟨own_later h.own hb, h.len, h.cap2⟩
theorem Room.at {w : World} {B g n cap : Nat} {ss : List Int} (h : Room w B g n cap ss) : B ≤ g ∧ g < w.heap.size := h.own.lt g rfl
theorem Room.cell {w : World} {B g n cap : Nat} {ss : List Int} (h : Room w B g n cap ss) (i : Nat) (hi : i < n + 2) : w.cell? ⟨g, i, none⟩ = (I64 (ss ++ [7777, 8888]))[i]? := h.own.cellAt i (by omega)
theorem Room.low {w : World} {B g n cap : Nat} {ss : List Int} (h : Room w B g n cap ss) (i : Nat) (hi : i < n) : w.cell? ⟨g, i, none⟩ = some (.int .i64 (ss.getD i 0)) := by
  have hl := h.len
  rw [h.cell i (by omega), I64, List.getElem?_map, List.getElem?_append_left (by omega)]
  simp [List.getD, List.getElem?_eq_getElem (show i < ss.length by omega)]
theorem Room.read {w : World} {B g n cap : Nat} {ss : List Int} (h : Room w B g n cap ss) : IIn w (some ⟨g, 0, none⟩) n ss :=
  ⟨h.len, fun _ => ⟨g, 0, rfl, fun i hi => by rw [Nat.zero_add]; exact h.low i hi⟩⟩
theorem Room.m7 {w : World} {B g n cap : Nat} {ss : List Int} (h : Room w B g n cap ss) : w.cell? ⟨g, n, none⟩ = some (.int .i64 7777) := by
  rw [h.cell n (by omega), ← h.len]
  simp [I64]
theorem Room.m8 {w : World} {B g n cap : Nat} {ss : List Int} (h : Room w B g n cap ss) : w.cell? ⟨g, n + 1, none⟩ = some (.int .i64 8888) := by
  rw [h.cell (n + 1) (by omega), ← h.len]
  simp [I64]
set_option maxHeartbeats 1000000 in
set_option maxRecDepth 100000 in
/-- Roomy -/
theorem roomy_is (p : Option Addr) (n c : Nat) (xs : List Int) (w : World) (h : IIn w p n xs) (hp : p = none → c = 0) (hnc : n ≤ c) (hbig : n + 80 ≤ 17592186044416) :
    Calls Try.prog 16 #[.slice p n c] w fun e w' => ∃ g cap, e = .returned (.slice (some ⟨g, 0, none⟩) n cap) ∧ Room w' w.heap.size g n cap xs ∧ Below w.heap.size w w' := by
  obtain ⟨i0, hi, hz0, hz1, hz2⟩ := info_parts info3
  have HL : Hid (xs.length = n) := h.len
  go_enter Try.func16, Try.ntmps16
  go_wp2_with fail
  refine (own_is p n c xs w h hp hnc hbig).mono ?_
  rintro e w1 ⟨q, d, rfl, hM⟩
  have HO : Hid (w1.ownsRow w.heap.size 3 1 (.slice q n d) n (I64 xs)) := hM.own
  have HB : Hid (Below w.heap.size w w1) := hM.below
  clear hM h hp
  have HN : Hid (∀ j u, (I64 [7777, 8888])[j]? = some u → (w1.alloc (.cells #[.int .i64 7777, .int .i64 8888] 3)).cell? ((⟨w1.heap.size, 0, none⟩ : Addr).add j) = some u) := (lit_in w1 [7777, 8888] 2 rfl).news
  go_wp2_with (at_builtin; refine wpList_append_lies _ rfl (.tmp 4) (.tmp 5) 22 rfl w.heap.size 3 i0 (.int .i64 0) 1 8 Try.underlying22 hi hz0 hz1 hz2 rfl (by omega) _ n (I64 xs) rfl (HO.out.alloc _) ⟨w1.heap.size, 0, none⟩ 2 2 (I64 [7777, 8888]) rfl rfl HN.out (ones_i64 _) (by omega) (by unfold maxLen; omega) (by omega) (by have := HB.out.size; simp; omega) _ rfl ?_)
  intro g cap w2 hown2 hgrow2 hat hlt
  have hcap : n + 2 ≤ cap := by
    rcases hown2.2 with ⟨h1, _⟩ | ⟨g', cap', cur, h1, _, _, h2, _⟩
    · cases h1
    · simp only [Value.slice.injEq] at h1
      omega
  have HO2 : Hid (Room w2 w.heap.size g n cap xs) := by
    refine ⟨?_, HL.out, hcap⟩
    have e : I64 (xs ++ [7777, 8888]) = I64 xs ++ I64 [7777, 8888] := by simp [I64]
    rw [e]
    exact hown2
  have HB2 : Hid (Below w.heap.size w w2) := (HB.out.alloc HB.out.size _).grown hgrow2 (by have := HB.out.size; simp; omega) (fun k hk => (HO.out.lt k hk).1)
  clear hown2 hgrow2 hat hlt HO HB
  have hc1 : (n : Int) ≤ (cap : Int) := by omega
  have hc0 : ¬ cap = 0 := by omega
  go_wp2
  go_ret
  exact ⟨g, cap, rfl, HO2.out, HB2.out⟩
set_option maxHeartbeats 2000000 in
set_option maxRecDepth 100000 in
/-- Held -/
theorem held_is (B g n cap d : Nat) (q : Option Addr) (xs : List Int) (w : World) (hr : Room w B g n cap xs) (hbig : n + 80 ≤ 17592186044416) (hw : IIn w q n xs) :
    Calls Try.prog 18 #[.slice (some ⟨g, 0, none⟩) n cap, .slice q n d] w fun e w' => e = .returned (.bool true) ∧ Below w.heap.size w w' := by
  have hcap := hr.cap2
  have hc1 : (n : Int) + 2 ≤ (cap : Int) := by omega
  have hc2 : (n : Int) ≤ (cap : Int) := by omega
  have hc0 : ¬ cap = 0 := by omega
  have H7 : Hid (w.cell? ⟨g, n, none⟩ = some (.int .i64 7777)) := hr.m7
  have H8 : Hid (w.cell? ⟨g, n + 1, none⟩ = some (.int .i64 8888)) := hr.m8
  have HR : Hid (IIn w (some ⟨g, 0, none⟩) n xs) := hr.read
  have HW : Hid (IIn w q n xs) := hw
  have hlt : g < w.heap.size := hr.at.2
  clear hr hw
  go_enter Try.func18, Try.ntmps18
  go_wp2_with fail
  refine (same_is _ _ n _ n _ xs xs w HR.out HW.out (by omega)).mono ?_
  rintro e w1 ⟨rfl, hb⟩
  have e7 : w1.cell? ⟨g, n, none⟩ = some (.int .i64 7777) := (hb.cell (p := ⟨g, n, none⟩) hlt).trans H7.out
  have e8 : w1.cell? ⟨g, n + 1, none⟩ = some (.int .i64 8888) := (hb.cell (p := ⟨g, n + 1, none⟩) hlt).trans H8.out
  have HB : Hid (Below w.heap.size w w1) := hb
  have ed : decide (xs = xs) = true := by simp
  rw [ed]
  clear hb ed
  go_wp2
  go_ret
  exact ⟨rfl, HB.out⟩
end Go.Proofs.Ythgkdpniaednaaa.B
