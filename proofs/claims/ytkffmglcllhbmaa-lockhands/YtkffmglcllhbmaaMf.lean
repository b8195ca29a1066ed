/-
  Layer 14: what is handed out, marked; LockHands.
-/
import Derived.Test.YtkffmglcllhbmaaMc
import Derived.Test.YtkffmglcllhbmaaMd
import Derived.Test.YtkffmglcllhbmaaMe
namespace Go.Proofs.Ytkffmglcllhbmaa
open Go.RowKit

open Go.Shelf
theorem wrS1 {k : Nat} (h : k ≤ 10) : wrap64 ((k : Int) + 1) = (k : Int) + 1 := by unfold wrap64; omega
theorem wrS2 {k : Nat} (h : k ≤ 10) : IntKind.u64.wrap ((k : Int) + 1) = (k : Int) + 1 := by rw [IntKind.wrap_u64]; omega
theorem wrS3 {k : Nat} (h : k ≤ 10) : IntKind.i64.wrap ((k : Int) + 1) = (k : Int) + 1 := by rw [IntKind.wrap_i64]; omega
theorem u64S {k : Nat} (h : k ≤ 10) : U64 ((k : Int) + 1) := u64_small (by omega) (by omega)
theorem own_news {W : World} {base n c : Nat} {e : TypeId} {p : Option Addr} {xs : List Value} (h : W.ownsRow base e 1 (.slice p n c) n xs) : ∀ ad, p = some ad → ∀ j u, xs[j]? = some u → W.cell? (ad.add j) = some u := fun ad ha j u hj => by
  rcases h.2 with ⟨e1, -⟩ | ⟨g, cap, cur, e1, _⟩
  · simp only [Value.slice.injEq] at e1; rw [e1.1] at ha; cases ha
  · have e2 := e1
    simp only [Value.slice.injEq] at e1
    rw [e1.1] at ha
    cases ha
    exact h.cells (g := g) (by rw [e1.1]; rfl) j u hj
theorem sameT_self (p q : Option Addr) (n c m d : Nat) (xs : List Int) (w : World) (hx : UIn w p n xs) (hy : UIn w q m xs) (hn : n ≤ 140737488355328) : Calls Try.prog 16 #[.slice p n c, .slice q m d] w fun e w' => e = .returned (.bool true) ∧ ∃ m, w' = w.drewN m :=
  (sameT_is p q n c m d xs xs w hx hy hn).mono fun e w' ⟨h1, h2⟩ => ⟨by rw [h1, decide_eq_true rfl], h2⟩
theorem sameI_self (p q : Option Addr) (n c m d : Nat) (xs : List Int) (w : World) (hx : B.IIn w p n xs) (hy : B.IIn w q m xs) (hn : n ≤ 140737488355328) : Calls Try.prog 17 #[.slice p n c, .slice q m d] w fun e w' => e = .returned (.bool true) ∧ ∃ m, w' = w.drewN m :=
  (sameI_is p q n c m d xs xs w hx hy hn).mono fun e w' ⟨h1, h2⟩ => ⟨by rw [h1, decide_eq_true rfl], h2⟩
theorem uin_own {W : World} {base : Nat} {u : Value} {l : List Int} (h : W.ownsRow base 30 1 u l.length (V64 l)) : ∃ p c, u = .slice p l.length c ∧ UIn W p l.length l := by
  obtain ⟨p, c, e, h1, -⟩ := (Row.own h).1.form
  exact ⟨p, c, e, h1⟩
theorem iin_own {W : World} {base : Nat} {u : Value} {l : List Int} (h : W.ownsRow base 3 1 u l.length (B.I64 l)) : ∃ p c, u = .slice p l.length c ∧ B.IIn W p l.length l := by
  obtain ⟨p, c, e, h1, -⟩ := B.ints_in h
  exact ⟨p, c, e, h1⟩
section
variable {w3 W : World} {fq fh : Nat → List Int} {A Bn c1 c2 c3 c4 : Nat} {p1 p2 p3 p4 : Option Addr}
theorem Mk.atQ (h : Mk w3 W fq fh (.slice p1 A c1) A (.slice p2 A c2) A (.slice p3 Bn c3) Bn (.slice p4 Bn c4) Bn) {i : Nat} (hi : i < A) : ∃ g g' pa ca pb cb, p1 = some ⟨g, 0, none⟩ ∧ p2 = some ⟨g', 0, none⟩ ∧ W.cell? ⟨g, i, none⟩ = some (.slice pa (fq i).length ca) ∧ W.cell? ⟨g', i, none⟩ = some (.slice pb (fq i).length cb) ∧ UIn W pa (fq i).length (fq i) ∧ UIn W pb (fq i).length (fq i) := by
  obtain ⟨usq, wsq, ush, wsh, l1, l2, l3, l4, t1, t2, hB⟩ := h
  have hu := List.getElem?_eq_getElem (show i < usq.length by omega)
  have hu' := List.getElem?_eq_getElem (show i < wsq.length by omega)
  obtain ⟨g, e1, k1⟩ := list_at t1.r1 hu
  obtain ⟨g', e2, k2⟩ := list_at t1.r2 hu'
  obtain ⟨pa, ca, e3, u3⟩ := uin_own (t1.e1 i _ hu)
  obtain ⟨pb, cb, e4, u4⟩ := uin_own (t1.e2 i _ hu')
  rw [e3] at k1
  rw [e4] at k2
  exact ⟨g, g', pa, ca, pb, cb, e1, e2, k1, k2, u3, u4⟩
theorem Mk.atH (h : Mk w3 W fq fh (.slice p1 A c1) A (.slice p2 A c2) A (.slice p3 Bn c3) Bn (.slice p4 Bn c4) Bn) {i : Nat} (hi : i < Bn) : ∃ g g' pa ca pb cb, p3 = some ⟨g, 0, none⟩ ∧ p4 = some ⟨g', 0, none⟩ ∧ W.cell? ⟨g, i, none⟩ = some (.slice pa (fh i).length ca) ∧ W.cell? ⟨g', i, none⟩ = some (.slice pb (fh i).length cb) ∧ B.IIn W pa (fh i).length (fh i) ∧ B.IIn W pb (fh i).length (fh i) := by
  obtain ⟨usq, wsq, ush, wsh, l1, l2, l3, l4, t1, t2, hB⟩ := h
  have hu := List.getElem?_eq_getElem (show i < ush.length by omega)
  have hu' := List.getElem?_eq_getElem (show i < wsh.length by omega)
  obtain ⟨g, e1, k1⟩ := list_at t2.r1 hu
  obtain ⟨g', e2, k2⟩ := list_at t2.r2 hu'
  obtain ⟨pa, ca, e3, u3⟩ := iin_own (t2.e1 i _ hu)
  obtain ⟨pb, cb, e4, u4⟩ := iin_own (t2.e2 i _ hu')
  rw [e3] at k1
  rw [e4] at k2
  exact ⟨g, g', pa, ca, pb, cb, e1, e2, k1, k2, u3, u4⟩
theorem Mk.marked (h : Mk w3 W fq fh (.slice p1 A c1) A (.slice p2 A c2) A (.slice p3 Bn c3) Bn (.slice p4 Bn c4) Bn) (hA : A ≤ 100) (hB : Bn ≤ 100) (hq : ∀ i, (fq i).length ≤ 1000) (hh : ∀ i, (fh i).length ≤ 1000) :
    Calls Try.prog 18 #[.slice p1 A c1, .slice p3 Bn c3] W fun e w' => e = .returned (.bool true) ∧ Below w3.heap.size w3 w' ∧ WrQ w' p2 A fq ∧ WrH w' p4 Bn fh := by
  obtain ⟨usq, wsq, ush, wsh, l1, l2, l3, l4, t1, t2, hBl⟩ := h
  have r1 : W.ownsRow 0 22 1 (.slice p1 A c1) A usq := by have := B.own_mono t1.r1 (Nat.zero_le _); rwa [l1] at this
  have r3 : W.ownsRow 0 37 1 (.slice p3 Bn c3) Bn ush := by have := B.own_mono t2.r1 (Nat.zero_le _); rwa [l3] at this
  refine (marked_any W (fun g => (∃ u ∈ usq, u.ownBlock = some g) ∨ ∃ u ∈ ush, u.ownBlock = some g) r1 r3 hA hB (fun k u hu => ⟨_, by rw [vlen_own (t1.e1 k u hu)]; exact B.own_mono (t1.e1 k u hu) (Nat.zero_le _), by rw [vlen_own (t1.e1 k u hu)]; exact hq k⟩) (fun k u hu => ⟨_, by rw [vlen_own (t2.e1 k u hu)]; exact B.own_mono (t2.e1 k u hu) (Nat.zero_le _), by rw [vlen_own (t2.e1 k u hu)]; exact hh k⟩) t1.p1 t2.p1 (fun u hu g hg => .inl ⟨u, hu, hg⟩) (fun u hu g hg => .inr ⟨u, hu, hg⟩)).mono ?_
  rintro e w' ⟨rfl, hk⟩
  have kq : ∀ g, (∃ u ∈ usq, u.ownBlock = some g) → ∃ cur, W.heap[g]? = some (.cells cur 30 (0, 0)) := fun g ⟨u, hu, hg⟩ => by
    obtain ⟨i, hi, rfl⟩ := List.getElem_of_mem hu
    exact own_typ (t1.e1 i _ (List.getElem?_eq_getElem hi)) hg
  have kh : ∀ g, (∃ u ∈ ush, u.ownBlock = some g) → ∃ cur, W.heap[g]? = some (.cells cur 3 (0, 0)) := fun g ⟨u, hu, hg⟩ => by
    obtain ⟨i, hi, rfl⟩ := List.getElem_of_mem hu
    exact own_typ (t2.e1 i _ (List.getElem?_eq_getElem hi)) hg
  have hS : ∀ {e : TypeId} {base n : Nat} {v : Value} {xs : List Value}, W.ownsRow base e 1 v n xs → e ≠ 30 → e ≠ 3 → ∀ g, v.ownBlock = some g → ¬ ((∃ u ∈ usq, u.ownBlock = some g) ∨ ∃ u ∈ ush, u.ownBlock = some g) := fun ho n1 n2 g hg hs => by
    rcases hs with hs | hs
    · obtain ⟨cur, hc⟩ := kq g hs; exact own_not ho hc (Ne.symm n1) hg
    · obtain ⟨cur, hc⟩ := kh g hs; exact own_not ho hc (Ne.symm n2) hg
  refine ⟨rfl, hk.into hBl (fun g hg hs => ?_) (Nat.le_refl _), fun i hi => ?_, fun i hi => ?_⟩
  · rcases hs with ⟨u, hu, e2⟩ | ⟨u, hu, e2⟩
    · have := (t1.lt1 hu e2).1; omega
    · have := (t2.lt1 hu e2).1; omega
  · have hu' := List.getElem?_eq_getElem (show i < wsq.length by omega)
    have o2 := own_far t1.r2 hk (hS t1.r2 (by decide) (by decide))
    obtain ⟨g', e2, k2⟩ := list_at o2 hu'
    have o3 := own_far (t1.e2 i _ hu') hk (fun g hg hs => by
      rcases hs with ⟨u, hu, e3⟩ | hs
      · exact t1.p12 u hu _ (List.getElem_mem _) g e3 hg
      · obtain ⟨cur, hc⟩ := kh g hs; exact own_not (t1.e2 i _ hu') hc (by decide) hg)
    obtain ⟨pb, cb, e4, u4⟩ := uin_own o3
    rw [e4] at k2
    exact ⟨g', pb, cb, e2, k2, u4⟩
  · have hu' := List.getElem?_eq_getElem (show i < wsh.length by omega)
    have o2 := own_far t2.r2 hk (hS t2.r2 (by decide) (by decide))
    obtain ⟨g', e2, k2⟩ := list_at o2 hu'
    have o3 := own_far (t2.e2 i _ hu') hk (fun g hg hs => by
      rcases hs with hs | ⟨u, hu, e3⟩
      · obtain ⟨cur, hc⟩ := kq g hs; exact own_not (t2.e2 i _ hu') hc (by decide) hg
      · exact t2.p12 u hu _ (List.getElem_mem _) g e3 hg)
    obtain ⟨pb, cb, e4, u4⟩ := iin_own o3
    rw [e4] at k2
    exact ⟨g', pb, cb, e2, k2, u4⟩
end
end Go.Proofs.Ytkffmglcllhbmaa
