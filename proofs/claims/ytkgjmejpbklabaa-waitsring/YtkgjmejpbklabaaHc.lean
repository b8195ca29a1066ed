/-
  Layer 15: awake.
-/
import Derived.Test.YtkgjmejpbklabaaHb
import Derived.Test.YtkgjmejpbklabaaGw
namespace Go.Proofs.Ytkgjmejpbklabaa
open Go.RowKit

theorem GIs.ts_is {es : List (Int × Int)} {ts : List Int} {nx : List (List Nat)} (h : GIs es ts nx) {l : List Int} (hl : l.Pairwise (· < ·)) (hm : ∀ x, x ∈ l ↔ ∃ e ∈ es, x = e.1 ∨ x = e.2) : ts = l := up_one h.up hl fun x => by rw [h.mem, hm]
theorem at_iff {ts : List Int} (h : ts.Pairwise (· < ·)) {i j : Nat} {x : Int} (hj : ts[j]? = some x) : ts[i]? = some x ↔ i = j := ⟨fun hi => up_at h hi hj, fun e => by rw [e]; exact hj⟩
def es3 : List Eg := [⟨1, 2, 0, 0⟩, ⟨2, 3, 0, 0⟩, ⟨3, 1, 0, 0⟩, ⟨5, 1, 0, 0⟩]
def es5 : List Eg := [⟨1, 5, 0, 0⟩, ⟨5, 2, 0, 0⟩, ⟨5, 9, 0, 0⟩, ⟨2, 5, 0, 0⟩, ⟨9, 1, 0, 0⟩]
theorem ring3 {ts : List Int} {nx : List (List Nat)} {l : List Nat} (h : GIs (egs es3) ts nx) (hr : RingIs (Ed nx) l) : tks ts l = [1, 2, 3] := by
  have hts : ts = [1, 2, 3, 5] := h.ts_is (by decide) (fun x => by simp [egs, es3, Eg.pr]; omega)
  subst hts
  have hE : ∀ u v, Ed nx u v ↔ ((u = 0 ∧ v = 1) ∨ (u = 1 ∧ v = 2) ∨ (u = 2 ∧ v = 0) ∨ (u = 3 ∧ v = 0)) := fun u v => by
    have a1 := fun i => at_iff h.up (i := i) (j := 0) (x := 1) rfl
    have a2 := fun i => at_iff h.up (i := i) (j := 1) (x := 2) rfl
    have a3 := fun i => at_iff h.up (i := i) (j := 2) (x := 3) rfl
    have a5 := fun i => at_iff h.up (i := i) (j := 3) (x := 5) rfl
    unfold Ed
    rw [h.ed]
    simp only [egs, es3, Eg.pr, List.map_cons, List.map_nil, List.mem_cons, List.not_mem_nil, or_false]
    constructor
    · rintro ⟨e, rfl | rfl | rfl | rfl, h1, h2⟩
      · exact .inl ⟨(a1 _).1 h1, (a2 _).1 h2⟩
      · exact .inr (.inl ⟨(a2 _).1 h1, (a3 _).1 h2⟩)
      · exact .inr (.inr (.inl ⟨(a3 _).1 h1, (a1 _).1 h2⟩))
      · exact .inr (.inr (.inr ⟨(a5 _).1 h1, (a1 _).1 h2⟩))
    · rintro (⟨rfl, rfl⟩ | ⟨rfl, rfl⟩ | ⟨rfl, rfl⟩ | ⟨rfl, rfl⟩)
      · exact ⟨(1, 2), .inl rfl, rfl, rfl⟩
      · exact ⟨(2, 3), .inr (.inl rfl), rfl, rfl⟩
      · exact ⟨(3, 1), .inr (.inr (.inl rfl)), rfl, rfl⟩
      · exact ⟨(5, 1), .inr (.inr (.inr rfl)), rfl, rfl⟩
  have hp : Pt (Ed nx) 3 0 0 := ⟨1, (hE _ _).2 (by omega), 2, (hE _ _).2 (by omega), 0, (hE _ _).2 (by omega), rfl⟩
  have hq : RingIs (Ed nx) [0, 1, 2] := by
    refine .inr ⟨0, 3, ⟨2, hp⟩, fun x _ => Nat.zero_le _, ⟨by omega, hp, fun j h0 hj hw => ?_⟩, [1, 2], rfl, 1, ⟨(hE _ _).2 (by omega), ⟨2, (hE _ _).2 (by omega), 0, (hE _ _).2 (by omega), rfl⟩, fun z hz _ => ?_⟩, [2], rfl, 2, ⟨(hE _ _).2 (by omega), ⟨0, (hE _ _).2 (by omega), rfl⟩, fun z hz _ => ?_⟩, [], rfl, 0, ⟨(hE _ _).2 (by omega), rfl, fun z _ _ => Nat.zero_le _⟩, rfl⟩
    · have : j = 1 ∨ j = 2 := by omega
      rcases this with rfl | rfl
      · obtain ⟨x, h1, h2⟩ := hw
        have h2 : x = 0 := h2
        have := (hE _ _).1 h1; omega
      · obtain ⟨x, h1, y, h2, h3⟩ := hw
        have h3 : y = 0 := h3
        have := (hE _ _).1 h1; have := (hE _ _).1 h2; omega
    · have := (hE _ _).1 hz; omega
    · have := (hE _ _).1 hz; omega
  rw [hr.one hq]
  rfl
theorem ring5 {ts : List Int} {nx : List (List Nat)} {l : List Nat} (h : GIs (egs es5) ts nx) (hr : RingIs (Ed nx) l) : tks ts l = [1, 5, 9] := by
  have hts : ts = [1, 2, 5, 9] := h.ts_is (by decide) (fun x => by simp [egs, es5, Eg.pr]; omega)
  subst hts
  have hE : ∀ u v, Ed nx u v ↔ ((u = 0 ∧ v = 2) ∨ (u = 2 ∧ v = 1) ∨ (u = 2 ∧ v = 3) ∨ (u = 1 ∧ v = 2) ∨ (u = 3 ∧ v = 0)) := fun u v => by
    have a1 := fun i => at_iff h.up (i := i) (j := 0) (x := 1) rfl
    have a2 := fun i => at_iff h.up (i := i) (j := 1) (x := 2) rfl
    have a5 := fun i => at_iff h.up (i := i) (j := 2) (x := 5) rfl
    have a9 := fun i => at_iff h.up (i := i) (j := 3) (x := 9) rfl
    unfold Ed
    rw [h.ed]
    simp only [egs, es5, Eg.pr, List.map_cons, List.map_nil, List.mem_cons, List.not_mem_nil, or_false]
    constructor
    · rintro ⟨e, rfl | rfl | rfl | rfl | rfl, h1, h2⟩
      · exact .inl ⟨(a1 _).1 h1, (a5 _).1 h2⟩
      · exact .inr (.inl ⟨(a5 _).1 h1, (a2 _).1 h2⟩)
      · exact .inr (.inr (.inl ⟨(a5 _).1 h1, (a9 _).1 h2⟩))
      · exact .inr (.inr (.inr (.inl ⟨(a2 _).1 h1, (a5 _).1 h2⟩)))
      · exact .inr (.inr (.inr (.inr ⟨(a9 _).1 h1, (a1 _).1 h2⟩)))
    · rintro (⟨rfl, rfl⟩ | ⟨rfl, rfl⟩ | ⟨rfl, rfl⟩ | ⟨rfl, rfl⟩ | ⟨rfl, rfl⟩)
      · exact ⟨(1, 5), .inl rfl, rfl, rfl⟩
      · exact ⟨(5, 2), .inr (.inl rfl), rfl, rfl⟩
      · exact ⟨(5, 9), .inr (.inr (.inl rfl)), rfl, rfl⟩
      · exact ⟨(2, 5), .inr (.inr (.inr (.inl rfl))), rfl, rfl⟩
      · exact ⟨(9, 1), .inr (.inr (.inr (.inr rfl))), rfl, rfl⟩
  have hp : Pt (Ed nx) 3 0 0 := ⟨2, (hE _ _).2 (by omega), 3, (hE _ _).2 (by omega), 0, (hE _ _).2 (by omega), rfl⟩
  have hq : RingIs (Ed nx) [0, 2, 3] := by
    refine .inr ⟨0, 3, ⟨2, hp⟩, fun x _ => Nat.zero_le _, ⟨by omega, hp, fun j h0 hj hw => ?_⟩, [2, 3], rfl, 2, ⟨(hE _ _).2 (by omega), ⟨3, (hE _ _).2 (by omega), 0, (hE _ _).2 (by omega), rfl⟩, fun z hz _ => ?_⟩, [3], rfl, 3, ⟨(hE _ _).2 (by omega), ⟨0, (hE _ _).2 (by omega), rfl⟩, fun z hz hw => ?_⟩, [], rfl, 0, ⟨(hE _ _).2 (by omega), rfl, fun z _ _ => Nat.zero_le _⟩, rfl⟩
    · have : j = 1 ∨ j = 2 := by omega
      rcases this with rfl | rfl
      · obtain ⟨x, h1, h2⟩ := hw
        have h2 : x = 0 := h2
        have := (hE _ _).1 h1; omega
      · obtain ⟨x, h1, y, h2, h3⟩ := hw
        have h3 : y = 0 := h3
        have := (hE _ _).1 h1; have := (hE _ _).1 h2; omega
    · have := (hE _ _).1 hz; omega
    · obtain ⟨y, h1, h2⟩ := hw
      have h2 : y = 0 := h2
      have := (hE _ _).1 hz; have := (hE _ _).1 h1; omega
  rw [hr.one hq]
  rfl
theorem es_made (w : World) (es : List Eg) (n : Nat) (hl : es.length = n) (hn : n ≤ 9000) : EIn (w.alloc (.cells (ecs es).toArray 45)) (some ⟨w.heap.size, 0, none⟩) n es := EIn.of_own (base := 0) (c := n) (O.own_made w 45 4 (ecs es) (by rw [ecs_len, hl]) (by omega) (Nat.zero_le _))
theorem us_made (w : World) (xs : List Int) (n : Nat) (hl : xs.length = n) (hn : n ≤ 9000) : UIn (w.alloc (.cells (U64 xs).toArray 25)) (some ⟨w.heap.size, 0, none⟩) n xs := uin_of_own (base := 0) (c := n) (O.own_made w 25 1 (U64 xs) (by simp [U64, hl]) (by omega) (Nat.zero_le _))
set_option maxHeartbeats 2000000 in
set_option maxRecDepth 100000 in
theorem awake_at (w : World) : Calls Try.prog 5 #[] w fun e w' => e = .returned (.bool true) ∧ RowKit.Below w.heap.size w w' := by
  obtain ⟨w1, e1⟩ : ∃ w1, w.alloc (.cells (ecs es3).toArray 45) = w1 := ⟨_, rfl⟩
  obtain ⟨w2, e2⟩ : ∃ w2, w1.alloc (.cells (ecs es5).toArray 45) = w2 := ⟨_, rfl⟩
  have H3 : Hid (EIn w2 (some ⟨w.heap.size, 0, none⟩) 4 es3) := by
    have := (es_made w es3 4 rfl (by omega)).later (below_alloc _ (.cells (ecs es5).toArray 45))
    rw [e1, e2] at this
    exact this
  have H5 : Hid (EIn w2 (some ⟨w.heap.size + 1, 0, none⟩) 5 es5) := by
    have := es_made w1 es5 5 rfl (by omega)
    rw [e2, ← e1, World.size_alloc] at this
    exact this
  have HB : Hid (RowKit.Below w.heap.size w w2) := by rw [← e2, ← e1]; exact below_then (below_alloc w _) (below_alloc _ _)
  have HW : Hid (w2 = (w.alloc (.cells (ecs es3).toArray 45)).alloc (.cells (ecs es5).toArray 45)) := by rw [e1, e2]; rfl
  clear e1 e2
  go_enter Try.func5, Try.ntmps5
  go_upto_region 3 with fail
  show Code.wp _ _ _ _ ((w.alloc (.cells (ecs es3).toArray 45)).alloc (.cells (ecs es5).toArray 45))
  rw [← HW.out]
  clear HW
  go_wp2_with fail
  refine (ring_at H3.out (by omega)).mono ?_
  rintro e w3 ⟨q3, c3, l3, ts, nx, rfl, ho, hb, hg, hr⟩
  have e3 := ring3 hg hr
  have hl3 : l3.length = 3 := by have := congrArg List.length e3; simpa [tks] using this
  rw [e3, hl3] at ho
  rw [hl3]
  have HU3 : Hid (UIn (w3.alloc (.cells (U64 [1, 2, 3]).toArray 25)) q3 3 [1, 2, 3] ∧ UIn (w3.alloc (.cells (U64 [1, 2, 3]).toArray 25)) (some ⟨w3.heap.size, 0, none⟩) 3 [1, 2, 3]) := ⟨(uin_of_own ho).later (below_alloc _ _), us_made w3 [1, 2, 3] 3 rfl (by omega)⟩
  have HB3 : Hid (RowKit.Below w.heap.size w w3) := below_then HB.out hb
  have H53 : Hid (EIn (w3.alloc (.cells (U64 [1, 2, 3]).toArray 25)) (some ⟨w.heap.size + 1, 0, none⟩) 5 es5) := (H5.out.later hb).later (below_alloc _ _)
  clear ho hb hg hr e3 hl3 H3 H5
  go_wp2_with fail
  refine (same_is HU3.out.1 HU3.out.2 (by omega) rfl).mono ?_
  rintro e w4 ⟨rfl, k4, hw4⟩
  have HB4 : Hid (RowKit.Below w.heap.size w w4) := by rw [hw4]; exact (below_then HB3.out (below_alloc _ _)).trans (below_dr _ _ k4)
  have H54 : Hid (EIn w4 (some ⟨w.heap.size + 1, 0, none⟩) 5 es5) := by rw [hw4]; exact H53.out.later (below_dr _ _ k4)
  clear hw4 HU3 HB3 H53
  go_wp2_with fail
  refine (ring_at H54.out (by omega)).mono ?_
  rintro e w5 ⟨q5, c5, l5, ts5, nx5, rfl, ho, hb, hg, hr⟩
  have e5 := ring5 hg hr
  have hl5 : l5.length = 3 := by have := congrArg List.length e5; simpa [tks] using this
  rw [e5, hl5] at ho
  rw [hl5]
  have HU5 : Hid (UIn (w5.alloc (.cells (U64 [1, 5, 9]).toArray 25)) q5 3 [1, 5, 9] ∧ UIn (w5.alloc (.cells (U64 [1, 5, 9]).toArray 25)) (some ⟨w5.heap.size, 0, none⟩) 3 [1, 5, 9]) := ⟨(uin_of_own ho).later (below_alloc _ _), us_made w5 [1, 5, 9] 3 rfl (by omega)⟩
  have HB5 : Hid (RowKit.Below w.heap.size w w5) := below_then HB4.out hb
  clear ho hb hg hr e5 hl5 H54 HB4
  go_wp2_with fail
  refine (same_is HU5.out.1 HU5.out.2 (by omega) rfl).mono ?_
  rintro e w6 ⟨rfl, k6, hw6⟩
  have HB6 : Hid (RowKit.Below w.heap.size w w6) := by rw [hw6]; exact (below_then HB5.out (below_alloc _ _)).trans (below_dr _ _ k6)
  clear hw6 HU5 HB5
  have HE7 : Hid (EIn ((w6.alloc (.cells (ecs [⟨3, 2, 0, 0⟩]).toArray 45)).alloc (.cells (U64 [3, 2, 9]).toArray 25)) (some ⟨w6.heap.size, 0, none⟩) 1 [⟨3, 2, 0, 0⟩]) := (es_made w6 [⟨3, 2, 0, 0⟩] 1 rfl (by omega)).later (below_alloc _ _)
  have HU7 : Hid (UIn ((w6.alloc (.cells (ecs [⟨3, 2, 0, 0⟩]).toArray 45)).alloc (.cells (U64 [3, 2, 9]).toArray 25)) (some ⟨w6.heap.size + 1, 0, none⟩) 3 [3, 2, 9]) := by
    have := us_made (w6.alloc (.cells (ecs [⟨3, 2, 0, 0⟩]).toArray 45)) [3, 2, 9] 3 rfl (by omega)
    rw [World.size_alloc] at this
    exact this
  go_wp2_with fail
  refine (free_at HE7.out (by omega) (fun e he => by simp at he; subst he; decide) HU7.out (by omega) (fun t ht => by simp at ht; rcases ht with rfl | rfl | rfl <;> decide)).mono ?_
  rintro e w8 ⟨q8, c8, rfl, ho, hb⟩
  have hf : freS [⟨3, 2, 0, 0⟩] [3, 2, 9] = [2, 9] := by decide
  rw [hf] at ho ⊢
  have HB8 : Hid (RowKit.Below w.heap.size w w8) := below_then (below_then (below_then HB6.out (below_alloc _ _)) (below_alloc _ _)) hb
  have HU8 : Hid (UIn (w8.alloc (.cells (U64 [2, 9]).toArray 25)) q8 2 [2, 9] ∧ UIn (w8.alloc (.cells (U64 [2, 9]).toArray 25)) (some ⟨w8.heap.size, 0, none⟩) 2 [2, 9]) := ⟨(uin_of_own ho).later (below_alloc _ _), us_made w8 [2, 9] 2 rfl (by omega)⟩
  clear ho hb hf HE7 HU7
  go_wp2_with fail
  refine (same_is HU8.out.1 HU8.out.2 (by omega) rfl).mono ?_
  rintro e w9 ⟨rfl, k9, hw9⟩
  have HB9 : Hid (RowKit.Below w.heap.size w w9) := by rw [hw9]; exact (below_then HB8.out (below_alloc _ _)).trans (below_dr _ _ k9)
  clear hw9 HU8 HB8
  go_wp2_with fail
  go_ret
  exact ⟨rfl, HB9.out⟩
end Go.Proofs.Ytkgjmejpbklabaa
