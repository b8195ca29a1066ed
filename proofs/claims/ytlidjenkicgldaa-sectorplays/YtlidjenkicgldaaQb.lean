/-
  The statement SectorKeeps: its walk, first part.
-/
import Derived.Test.YtlidjenkicgldaaQa
namespace Go.Proofs.Ytlidjenkicgldaa
open Go.RowKit

theorem setl_congr {K K' : Nat → Bool} {ws : List Wr} {d : List Int} : ∀ k, (∀ j, j < k → K j = K' j) → setl K ws d k = setl K' ws d k
  | 0, _ => rfl
  | k + 1, h => by
    have ih := setl_congr (ws := ws) (d := d) k (fun j hj => h j (by omega))
    by_cases hk : k < ws.length
    · rw [setl_step K ws d k hk, setl_step K' ws d k hk, ih, h k (by omega)]
    · simp only [setl, List.getElem?_eq_none (show ws.length ≤ k by omega)]; exact ih

theorem sec_in {w : World} {b o s : Nat} {D : List Int} (h : BIn w (some ⟨b, o, none⟩) 512 D) (hs : s < 8) : BIn w (some ⟨b, o + s * 64, none⟩) 64 (sec D s) := by
  have h1 := (h.drop (s * 64) (by omega)).take 64 (by omega)
  unfold sec
  rw [Nat.mul_comm 64 s]
  exact h1

/-- the last ones first -/
def alls (n k : Nat) : List Int := (List.range k).map fun (i : Nat) => (n : Int) - 1 - (i : Int)
theorem alls_succ (n k : Nat) : alls n (k + 1) = alls n k ++ [(n : Int) - 1 - (k : Int)] := by simp [alls, List.range_succ]
theorem alls_length (n k : Nat) : (alls n k).length = k := by simp [alls]
theorem alls_mem (n j : Nat) (h : j < n) : keepsK (alls n n) j = true := by
  simp only [keepsK, decide_eq_true_eq, alls, List.mem_map, List.mem_range]
  exact ⟨n - 1 - j, by omega, by omega⟩

/-- the sector s behind the write number k, once j of the numbers that are kept have been looked at -/
def want (K : List Int) (xs : List Int) (d : List Int) (s k j : Nat) (n : Nat) : List Int :=
  if (k : Int) ∈ K.take j ∧ sl8 (xs.getD k 0) = s then wb k else sec (setl (keepsK K) (pws xs n) d k) s
theorem want_start (K xs d : List Int) (s k n : Nat) : want K xs d s k 0 n = sec (setl (keepsK K) (pws xs n) d k) s := by simp [want]
theorem want_end {K xs d : List Int} {s k n : Nat} (hk : k < n) (hs : s < 8) (hd : d.length = 64 * 8) (hf : Fit 8 (pws xs n)) : want K xs d s k K.length n = sec (setl (keepsK K) (pws xs n) d (k + 1)) s := by
  have hk' : k < (pws xs n).length := by rw [pws_length]; exact hk
  have e : (pws xs n)[k] = ⟨sl8 (xs.getD k 0), wb k⟩ := by simp [pws]
  unfold want
  rw [setl_step _ _ _ k hk', e, List.take_of_length_le (Nat.le_refl _)]
  by_cases hm : (k : Int) ∈ K
  · rw [if_pos (show keepsK K k = true by simpa [keepsK] using hm), sec_put (setl_length hd hf k) (sl8_lt _) (wb_length k) hs]
    by_cases c : s = sl8 (xs.getD k 0)
    · rw [if_pos ⟨hm, c.symm⟩, if_pos c]
    · rw [if_neg (fun h => c h.2.symm), if_neg c]
  · rw [if_neg (fun h => hm h.1), if_neg (show ¬ keepsK K k = true by simpa [keepsK] using hm)]
theorem want_hit {K xs d : List Int} {s k j n : Nat} (hj : j < K.length) (h1 : K[j] = (k : Int)) (h2 : sl8 (xs.getD k 0) = s) : want K xs d s k (j + 1) n = wb k := by
  unfold want
  rw [List.take_succ_eq_append_getElem hj, h1, if_pos ⟨by simp, h2⟩]
theorem want_miss {K xs d : List Int} {s k j n : Nat} (hj : j < K.length) (h : ¬ (K[j] = (k : Int) ∧ sl8 (xs.getD k 0) = s)) : want K xs d s k (j + 1) n = want K xs d s k j n := by
  unfold want
  rw [List.take_succ_eq_append_getElem hj]
  by_cases c : sl8 (xs.getD k 0) = s
  · have hne : ¬ (k : Int) = K[j] := fun e => h ⟨e.symm, c⟩
    by_cases cm : (k : Int) ∈ K.take j
    · rw [if_pos ⟨List.mem_append_left _ cm, c⟩, if_pos ⟨cm, c⟩]
    · rw [if_neg (fun hh => (List.mem_append.1 hh.1).elim cm (fun e => hne (List.mem_singleton.1 e))), if_neg (fun hh => cm hh.1)]
  · rw [if_neg (fun hh => c hh.2), if_neg (fun hh => c hh.2)]
theorem fit_pws (xs : List Int) (n : Nat) (h : n ≤ 30) : Fit 8 (pws xs n) := fun x hx => by
  obtain ⟨i, hi, rfl⟩ := List.mem_map.1 hx
  have := List.mem_range.1 hi
  exact ⟨sl8_lt _, wb_length _, wb_bytes _ (by omega)⟩

set_option maxRecDepth 20000 in
set_option maxHeartbeats 8000000 in
theorem keeps_any (a1 a2 a3 : Option Addr) (m1 c1 m2 c2 m3 c3 : Nat) (x1 x2 x3 : List Int) (w : World) (h1 : IIn w a1 m1 x1) (h2 : IIn w a2 m2 x2) (h3 : IIn w a3 m3 x3) (n1 : a1 = none → c1 = 0) (n2 : a2 = none → c2 = 0) (n3 : a3 = none → c3 = 0) (l1 : m1 ≤ c1) (l2 : m2 ≤ c2) (l3 : m3 ≤ c3) :
    Calls Try.prog 4 #[.slice a1 m1 c1, .slice a2 m2 c2, .slice a3 m3 c3] w fun e w' => e = .returned (.bool true) ∧ Below w.heap.size w w' := by
  go_enter Try.func4, Try.ntmps4
  go_wp2_with fail
  refine (awake_any w).mono ?_
  rintro e w1 ⟨rfl, b1⟩
  replace h1 := h1.later b1
  replace h2 := h2.later b1
  replace h3 := h3.later b1
  go_wp2_with fail
  refine (some_any a1 m1 c1 x1 w1 h1 n1 l1).mono ?_
  rintro e w2 ⟨q1, d1, J1, X1, rfl, i1, j1, s1, b2⟩
  replace h2 := h2.later b2
  replace h3 := h3.later b2
  go_wp2_with fail
  refine (some_any a2 m2 c2 x2 w2 h2 n2 l2).mono ?_
  rintro e w3 ⟨q2, d2, J2, X2, rfl, i2, j2, s2, b3⟩
  replace h3 := h3.later b3
  replace i1 := i1.later b3
  go_wp2_with fail
  refine (some_any a3 m3 c3 x3 w3 h3 n3 l3).mono ?_
  rintro e w4 ⟨q3, d3, J3, X3, rfl, i3, j3, s3, b4⟩
  replace i1 := i1.later b4
  replace i2 := i2.later b4
  have z2 := b2.size
  have z3 := b3.size
  have z4 := b4.size
  have HB4 : Hid (Below w.heap.size w w4) := below_then (below_then (below_then b1 b2) b3) b4
  have p1 : ∀ a, q1 = some a → a.block < w4.heap.size := fun a h => by have := s1 a h; omega
  have p2 : ∀ a, q2 = some a → a.block < w4.heap.size := fun a h => by have := s2 a h; omega
  have p3 : ∀ a, q3 = some a → a.block < w4.heap.size := fun a h => by have := s3 a h; omega
  clear h1 h2 h3 n1 n2 n3 l1 l2 l3 s1 s2 s3 b1 b2 b3 b4 z2 z3 z4
  go_wp2_with fail
  refine (new_good 8 w4 (by omega) (by omega)).mono ?_
  rintro e w5 ⟨p, rfl, hd, b5⟩
  replace i1 := i1.later b5
  replace i2 := i2.later b5
  replace i3 := i3.later b5
  have z5 := b5.size
  replace hd := hd.mono (T := fun k => w4.heap.size ≤ k ∧ k < w5.heap.size) (fun k hk h => ⟨h, hk⟩)
  go_wp2_with fail
  refine (put_any hd q1 J1 d1 X1 i1 j1 (fun b hb h => by have := p1 b hb; omega) rfl).mono ?_
  rintro e w6 ⟨rfl, hd6, k6⟩
  have z6 := k6.size
  replace hd6 := hd6.mono (T := fun k => w4.heap.size ≤ k ∧ k < w6.heap.size) (fun k hk h => ⟨by rcases h with h | h <;> omega, hk⟩)
  replace i2 := i2.kept k6 (fun a h hh => by have := p2 a h; omega)
  replace i3 := i3.kept k6 (fun a h hh => by have := p3 a h; omega)
  have b6 : Below w4.heap.size w4 w6 := b5.trans (k6.below z5 (fun k h => h.1))
  clear hd k6 b5 i1 p1
  go_wp2_with fail
  refine (flush_any hd6 (by rw [pws_length]; omega)).mono ?_
  rintro e w7 ⟨rfl, hd7, k7⟩
  have z7 := k7.size
  replace i2 := i2.kept k7 (fun a h hh => by have := p2 a h; omega)
  replace i3 := i3.kept k7 (fun a h hh => by have := p3 a h; omega)
  have b7 : Below w4.heap.size w4 w7 := b6.trans (k7.below (by omega) (fun k h => h.1))
  clear hd6 k7 b6
  rw [pws_length]
  obtain ⟨D, hD⟩ : ∃ D, settle (fun _ => true) (pws X1 J1) (List.replicate (64 * 8) 0) = D := ⟨_, rfl⟩
  rw [hD] at hd7
  have hDl : D.length = 64 * 8 := by rw [← hD]; exact setl_length (by simp) (fit_pws X1 J1 j1) _
  have hDb : Bytes D := by rw [← hD]; exact setl_bytes (Bytes.rep _ _ (by omega)) (fit_pws X1 J1 j1) _
  clear hD
  go_wp2_with fail
  refine (image_any hd7).mono ?_
  rintro e w8 ⟨v, rfl, hown, b8⟩
  obtain ⟨wp, wc, rfl, iw, _⟩ := own_in hown hDb
  have pw : ∀ a, wp = some a → w7.heap.size ≤ a.block ∧ a.block < w8.heap.size := fun a h => by
    subst h; have := hown.lt a.block rfl; exact this
  have z8 := b8.size
  replace hd7 := hd7.later b8
  replace i2 := i2.later b8
  replace i3 := i3.later b8
  replace b7 := b7.trans (b8.mono (by omega))
  clear hown b8
  replace iw : BIn w8 wp 512 D := iw
  have HF : Hid (Dsk w8.drew (fun k => w4.heap.size ≤ k ∧ k < w6.heap.size) p 8 D [] ∧ IIn w8.drew q2 J2 X2 ∧ IIn w8.drew q3 J3 X3 ∧ BIn w8.drew wp 512 D) := ⟨hd7.later ⟨rfl, rfl, rfl, Nat.le_refl _, fun _ _ => rfl⟩, i2.later ⟨rfl, rfl, rfl, Nat.le_refl _, fun _ _ => rfl⟩, i3.later ⟨rfl, rfl, rfl, Nat.le_refl _, fun _ _ => rfl⟩, iw.drew⟩
  have HP : Hid ((∀ a, q2 = some a → a.block < w4.heap.size) ∧ (∀ a, q3 = some a → a.block < w4.heap.size) ∧ (∀ a, wp = some a → w7.heap.size ≤ a.block ∧ a.block < w8.heap.size)) := ⟨p2, p3, pw⟩
  have HD : Hid (D.length = 64 * 8 ∧ Bytes D) := ⟨hDl, hDb⟩
  have HZ : Hid (w4.heap.size ≤ w6.heap.size ∧ w6.heap.size ≤ w7.heap.size ∧ w7.heap.size ≤ w8.heap.size) := ⟨by omega, z7, z8⟩
  have HB8 : Hid (Below w4.heap.size w4 w8.drew) := b7.drew
  clear hd7 i2 i3 iw p2 p3 pw hDl hDb b7 z5 z6 z7 z8
  go_wp2_with fail
  have z1 := HF.out.2.2.2.str wc
  refine wp_region_noPanic ?_
  refine wp_region_held_drew (S := (fun w' => Sem.run Try.prog (convert 23 9 (Value.slice wp 512 wc)) w' = Result.ok (Value.string (strOfNums D)) w')) (by kernel_rfl) z1 (fun hHeld => ?_)
  clear z1
  refine wpAnyH_take (i := 0) (v := ?v0) (by simp; rfl) (by kernel_rfl) (by kernel_rfl) (by kernel_rfl) (fun _ _ _ h => h) (Or.inl ⟨by rfl, ?y0⟩) hHeld ?r0
  case y0 => intro w hSw; clear hSw; go_simp; with_reducible rfl
  simp only [Act.put, List.setIfInBounds_toArray, List.set_cons_zero, List.set_cons_succ]
  refine wpAnyH_take (i := 1) (v := ?v1) (by simp; rfl) (by kernel_rfl) (by kernel_rfl) (by kernel_rfl) (fun _ _ _ h => h) (Or.inl ⟨by rfl, ?y1⟩) hHeld ?r1
  case y1 => intro w hSw; clear hSw; go_simp; with_reducible rfl
  simp only [Act.put, List.setIfInBounds_toArray, List.set_cons_zero, List.set_cons_succ]
  refine wpAnyH_take (i := 2) (v := ?v2) (by simp; rfl) (by kernel_rfl) (by kernel_rfl) (by kernel_rfl) (fun _ _ _ h => h) (Or.inl ⟨by rfl, ?y2⟩) hHeld ?r2
  case y2 => intro w hSw; clear hSw; go_simp; with_reducible rfl
  simp only [Act.put, List.setIfInBounds_toArray, List.set_cons_zero, List.set_cons_succ]
  refine wpAnyH_take (i := 3) (v := ?v3) (by simp; rfl) (by kernel_rfl) (by kernel_rfl) (by kernel_rfl) (fun _ _ _ h => h) (Or.inl ⟨by rfl, ?y3⟩) hHeld ?r3
  case y3 => intro w hSw; clear hSw; go_simp; with_reducible rfl
  simp only [Act.put, List.setIfInBounds_toArray, List.set_cons_zero, List.set_cons_succ]
  refine wpAnyH_take (i := 4) (v := ?v4) (by simp; rfl) (by kernel_rfl) (by kernel_rfl) (by kernel_rfl) (fun _ _ _ h => h) (Or.inl ⟨by rfl, ?y4⟩) hHeld ?r4
  case y4 => intro w hSw; clear hSw; go_simp; with_reducible rfl
  simp only [Act.put, List.setIfInBounds_toArray, List.set_cons_zero, List.set_cons_succ]
  refine wpAnyH_take (i := 5) (v := ?v5) (by simp; rfl) (by kernel_rfl) (by kernel_rfl) (by kernel_rfl) (fun _ _ _ h => h) (Or.inl ⟨by rfl, ?y5⟩) hHeld ?r5
  case y5 => intro w hSw; clear hSw; go_simp; with_reducible rfl
  simp only [Act.put, List.setIfInBounds_toArray, List.set_cons_zero, List.set_cons_succ]
  refine wpAnyH_take (i := 6) (v := ?v6) (by simp; rfl) (by kernel_rfl) (by kernel_rfl) (by kernel_rfl) (fun _ _ _ h => h) (Or.inl ⟨by rfl, ?y6⟩) hHeld ?r6
  case y6 => intro w hSw; clear hSw; go_simp; with_reducible rfl
  simp only [Act.put, List.setIfInBounds_toArray, List.set_cons_zero, List.set_cons_succ]
  refine wpAnyH_take (i := 7) (v := ?v7) (by simp; rfl) (by kernel_rfl) (by kernel_rfl) (by kernel_rfl) (fun _ _ _ h => h) (Or.inl ⟨by rfl, ?y7⟩) hHeld ?r7
  case y7 => intro w hSw; clear hSw; go_simp; with_reducible rfl
  simp only [Act.put, List.setIfInBounds_toArray, List.set_cons_zero, List.set_cons_succ]
  refine wpAnyH_take (i := 8) (v := ?v8) (by simp; rfl) (by kernel_rfl) (by kernel_rfl) (by kernel_rfl) (fun _ _ _ h => h) (Or.inl ⟨by rfl, ?y8⟩) hHeld ?r8
  case y8 => intro w hSw; clear hSw; go_simp; with_reducible rfl
  simp only [Act.put, List.setIfInBounds_toArray, List.set_cons_zero, List.set_cons_succ]
  refine wpAnyH_take (i := 9) (v := ?v9) (by simp; rfl) (by kernel_rfl) (by kernel_rfl) (by kernel_rfl) (fun _ _ _ h => h) (Or.inl ⟨by rfl, ?y9⟩) hHeld ?r9
  case y9 => intro w hSw; clear hSw; go_simp; with_reducible rfl
  simp only [Act.put, List.setIfInBounds_toArray, List.set_cons_zero, List.set_cons_succ]
  refine wpAnyH_take (i := 10) (v := ?v10) (by simp; rfl) (by kernel_rfl) (by kernel_rfl) (by kernel_rfl) (fun _ _ _ h => h) (Or.inl ⟨by rfl, ?y10⟩) hHeld ?r10
  case y10 => intro w hSw; clear hSw; go_simp; with_reducible rfl
  simp only [Act.put, List.setIfInBounds_toArray, List.set_cons_zero, List.set_cons_succ]
  refine wpAnyH_take (i := 11) (v := ?v11) (by simp; rfl) (by kernel_rfl) (by kernel_rfl) (by kernel_rfl) (fun _ _ _ h => h) (Or.inl ⟨by rfl, ?y11⟩) hHeld ?r11
  case y11 => intro w hSw; clear hSw; go_simp; with_reducible rfl
  simp only [Act.put, List.setIfInBounds_toArray, List.set_cons_zero, List.set_cons_succ]
  refine wpAnyH_take (i := 12) (v := ?v12) (by simp; rfl) (by kernel_rfl) (by kernel_rfl) (by kernel_rfl) (fun _ _ _ h => h) (Or.inl ⟨by rfl, ?y12⟩) hHeld ?r12
  case y12 => intro w hSw; clear hSw; go_simp; with_reducible rfl
  simp only [Act.put, List.setIfInBounds_toArray, List.set_cons_zero, List.set_cons_succ]
  refine wpAnyH_take (i := 13) (v := ?v13) (by simp; rfl) (by kernel_rfl) (by kernel_rfl) (by kernel_rfl) (fun _ _ _ h => h) (Or.inl ⟨by rfl, ?y13⟩) hHeld ?r13
  case y13 => intro w hSw; clear hSw; go_simp; with_reducible rfl
  simp only [Act.put, List.setIfInBounds_toArray, List.set_cons_zero, List.set_cons_succ]
  refine wpAnyH_take (i := 14) (v := ?v14) (by simp; rfl) (by kernel_rfl) (by kernel_rfl) (by kernel_rfl) (fun _ _ _ h => h) (Or.inl ⟨by rfl, ?y14⟩) hHeld ?r14
  case y14 => intro w hSw; clear hSw; go_simp; with_reducible rfl
  simp only [Act.put, List.setIfInBounds_toArray, List.set_cons_zero, List.set_cons_succ]
  refine wpAnyH_ready (rs := [15]) (by kernel_rfl) (by simp) ?_
  refine AllReadyH.cons (by simp; rfl) (fun K' hK => ?_) AllReadyH.nil
  go_simp
  refine (waiting_any HF.out.1 (by simp)).mono ?_
  rintro e w9 ⟨gw, vsw, rfl, _, b9⟩
  simp only [List.length_nil]
  have HF9 : Hid (Dsk w9 (fun k => w4.heap.size ≤ k ∧ k < w6.heap.size) p 8 D [] ∧ IIn w9 q2 J2 X2 ∧ IIn w9 q3 J3 X3 ∧ BIn w9 wp 512 D) := ⟨HF.out.1.later b9, HF.out.2.1.later b9, HF.out.2.2.1.later b9, HF.out.2.2.2.later b9⟩
  have z9 : w8.heap.size ≤ w9.heap.size := b9.size
  have HB9 : Hid (Below w4.heap.size w4 w9) := HB8.out.trans (b9.mono (by have := HZ.out; show w4.heap.size ≤ w8.heap.size; omega))
  clear HF HB8 b9
  refine hK.out _ _ (HF9.out.2.2.2.str wc) (fun hHeld => ?_)
  clear hK K'
  refine wpAnyH_take (i := 16) (v := ?v16) (by simp; rfl) (by kernel_rfl) (by kernel_rfl) (by kernel_rfl) (fun _ _ _ h => h) (Or.inl ⟨by rfl, ?y16⟩) hHeld ?r16
  case y16 => intro w hSw; clear hSw; go_simp; with_reducible rfl
  simp only [Act.put, List.setIfInBounds_toArray, List.set_cons_zero, List.set_cons_succ]
  refine wpAnyH_take (i := 17) (v := ?v17) (by simp; rfl) (by kernel_rfl) (by kernel_rfl) (by kernel_rfl) (fun _ _ _ h => h) (Or.inl ⟨by rfl, ?y17⟩) hHeld ?r17
  case y17 => intro w hSw; clear hSw; go_simp; with_reducible rfl
  simp only [Act.put, List.setIfInBounds_toArray, List.set_cons_zero, List.set_cons_succ]
  refine wpAnyH_take (i := 18) (v := ?v18) (by simp; rfl) (by kernel_rfl) (by kernel_rfl) (by kernel_rfl) (fun _ _ _ h => h) (Or.inl ⟨by rfl, ?y18⟩) hHeld ?r18
  case y18 => intro w hSw; clear hSw; go_simp; with_reducible rfl
  simp only [Act.put, List.setIfInBounds_toArray, List.set_cons_zero, List.set_cons_succ]
  refine wpAnyH_take (i := 19) (v := ?v19) (by simp; rfl) (by kernel_rfl) (by kernel_rfl) (by kernel_rfl) (fun _ _ _ h => h) (Or.inl ⟨by rfl, ?y19⟩) hHeld ?r19
  case y19 => intro w hSw; clear hSw; go_simp; with_reducible rfl
  simp only [Act.put, List.setIfInBounds_toArray, List.set_cons_zero, List.set_cons_succ]
  refine wpAnyH_take (i := 20) (v := ?v20) (by simp; rfl) (by kernel_rfl) (by kernel_rfl) (by kernel_rfl) (fun _ _ _ h => h) (Or.inl ⟨by rfl, ?y20⟩) hHeld ?r20
  case y20 => intro w hSw; clear hSw; go_simp; with_reducible rfl
  simp only [Act.put, List.setIfInBounds_toArray, List.set_cons_zero, List.set_cons_succ]
  refine wpAnyH_take (i := 21) (v := ?v21) (by simp; rfl) (by kernel_rfl) (by kernel_rfl) (by kernel_rfl) (fun _ _ _ h => h) (Or.inl ⟨by rfl, ?y21⟩) hHeld ?r21
  case y21 => intro w hSw; clear hSw; go_simp; with_reducible rfl
  simp only [Act.put, List.setIfInBounds_toArray, List.set_cons_zero, List.set_cons_succ]
  refine wpAnyH_ready (rs := [22]) (by kernel_rfl) (by simp) ?_
  refine AllReadyH.cons (by simp; rfl) (fun K' hK => ?_) AllReadyH.nil
  go_simp
  refine (put_any HF9.out.1 q2 J2 d2 X2 HF9.out.2.1 j2 (fun b hb h => by have := HP.out.1 b hb; omega) rfl).mono ?_
  rintro e w10 ⟨rfl, hd10, k10⟩
  have z10 := k10.size
  have HF10 : Hid (Dsk w10 (fun k => (w4.heap.size ≤ k ∧ (k < w6.heap.size ∨ w9.heap.size ≤ k)) ∧ k < w10.heap.size) p 8 D (pws X2 J2) ∧ IIn w10 q2 J2 X2 ∧ IIn w10 q3 J3 X3 ∧ BIn w10 wp 512 D) := by
    have hz := HZ.out
    refine ⟨hd10.mono (fun k hk h => ⟨by rcases h with h | h <;> omega, hk⟩), HF9.out.2.1.kept k10 (fun a h hh => by have := HP.out.1 a h; omega), HF9.out.2.2.1.kept k10 (fun a h hh => by have := HP.out.2.1 a h; omega), ?_⟩
    exact HF9.out.2.2.2.kept k10 (fun a h hh => by have := HP.out.2.2 a h; omega)
  have HB10 : Hid (Below w4.heap.size w4 w10) := HB9.out.trans (k10.below (by have := HZ.out; omega) (fun k h => h.1))
  clear HF9 HB9 hd10 k10
  refine hK.out _ _ (HF10.out.2.2.2.str wc) (fun hHeld => ?_)
  clear hK K'
  refine wpAnyH_take (i := 23) (v := ?v23) (by simp; rfl) (by kernel_rfl) (by kernel_rfl) (by kernel_rfl) (fun _ _ _ h => h) (Or.inl ⟨by rfl, ?y23⟩) hHeld ?r23
  case y23 => intro w hSw; clear hSw; go_simp; with_reducible rfl
  simp only [Act.put, List.setIfInBounds_toArray, List.set_cons_zero, List.set_cons_succ]
  refine wpAnyH_take (i := 24) (v := ?v24) (by simp; rfl) (by kernel_rfl) (by kernel_rfl) (by kernel_rfl) (fun _ _ _ h => h) (Or.inl ⟨by rfl, ?y24⟩) hHeld ?r24
  case y24 => intro w hSw; clear hSw; go_simp; with_reducible rfl
  simp only [Act.put, List.setIfInBounds_toArray, List.set_cons_zero, List.set_cons_succ]
  refine wpAnyH_take (i := 25) (v := ?v25) (by simp; rfl) (by kernel_rfl) (by kernel_rfl) (by kernel_rfl) (fun _ _ _ h => h) (Or.inl ⟨by rfl, ?y25⟩) hHeld ?r25
  case y25 => intro w hSw; clear hSw; go_simp; with_reducible rfl
  simp only [Act.put, List.setIfInBounds_toArray, List.set_cons_zero, List.set_cons_succ]
  refine wpAnyH_take (i := 26) (v := ?v26) (by simp; rfl) (by kernel_rfl) (by kernel_rfl) (by kernel_rfl) (fun _ _ _ h => h) (Or.inl ⟨by rfl, ?y26⟩) hHeld ?r26
  case y26 => intro w hSw; clear hSw; go_simp; with_reducible rfl
  simp only [Act.put, List.setIfInBounds_toArray, List.set_cons_zero, List.set_cons_succ]
  refine wpAnyH_take (i := 29) (v := ?v29) (by simp; rfl) (by kernel_rfl) (by kernel_rfl) (by kernel_rfl) (fun _ _ _ h => h) (Or.inl ⟨by rfl, ?y29⟩) hHeld ?r29
  case y29 => intro w hSw; clear hSw; go_simp; with_reducible rfl
  simp only [Act.put, List.setIfInBounds_toArray, List.set_cons_zero, List.set_cons_succ]
  refine wpAnyH_take (i := 30) (v := ?v30) (by simp; rfl) (by kernel_rfl) (by kernel_rfl) (by kernel_rfl) (fun _ _ _ h => h) (Or.inl ⟨by rfl, ?y30⟩) hHeld ?r30
  case y30 => intro w hSw; go_simp; with_reducible rfl
  simp only [Act.put, List.setIfInBounds_toArray, List.set_cons_zero, List.set_cons_succ]
  refine wpAnyH_ready (rs := [27]) (by kernel_rfl) (by simp) ?_
  refine AllReadyH.cons (by simp; rfl) (fun K' hK => ?_) AllReadyH.nil
  go_simp
  refine (image_any HF10.out.1).mono ?_
  rintro e w11 ⟨vi, rfl, hown, b11⟩
  obtain ⟨pi, ci, rfl, hini, _⟩ := own_in hown HD.out.2
  have z5 := hini.str ci
  have z11 := b11.size
  have HF11 : Hid (Dsk w11 (fun k => (w4.heap.size ≤ k ∧ (k < w6.heap.size ∨ w9.heap.size ≤ k)) ∧ k < w10.heap.size) p 8 D (pws X2 J2) ∧ IIn w11 q2 J2 X2 ∧ IIn w11 q3 J3 X3 ∧ BIn w11 wp 512 D) := ⟨HF10.out.1.later b11, HF10.out.2.1.later b11, HF10.out.2.2.1.later b11, HF10.out.2.2.2.later b11⟩
  have HB11 : Hid (Below w4.heap.size w4 w11) := HB10.out.trans (b11.mono (by have := HZ.out; omega))
  clear HF10 HB10 b11 hown hini
  have z1 := HF11.out.2.2.2.str wc
  refine hK.out _ _ z1 (fun hHeld => ?_)
  clear hK K'
  refine wpAnyH_ready (rs := [28]) (by kernel_rfl) (by simp) ?_
  refine AllReadyH.cons (by simp; rfl) (fun K' hK => ?_) AllReadyH.nil
  go_simp
  refine hK.out _ _ z1 (fun hHeld => ?_)
  clear hK K' z5 z1
  refine wpAnyH_take (i := 31) (v := ?v31) (by simp; rfl) (by kernel_rfl) (by kernel_rfl) (by kernel_rfl) (fun _ _ _ h => h) (Or.inl ⟨by rfl, ?y31⟩) hHeld ?r31
  case y31 => intro w hSw; clear hSw; go_simp; with_reducible rfl
  simp only [Act.put, List.setIfInBounds_toArray, List.set_cons_zero, List.set_cons_succ]
  refine wpAnyH_take (i := 32) (v := ?v32) (by simp; rfl) (by kernel_rfl) (by kernel_rfl) (by kernel_rfl) (fun _ _ _ h => h) (Or.inl ⟨by rfl, ?y32⟩) hHeld ?r32
  case y32 => intro w hSw; clear hSw; go_simp; with_reducible rfl
  simp only [Act.put, List.setIfInBounds_toArray, List.set_cons_zero, List.set_cons_succ]
  refine wpAnyH_done (by kernel_rfl) (NoPanic.normal ?_) _
  clear hHeld
  go_wp2_with fail
  refine (copy_any HF11.out.1 (by rw [pws_length]; omega)).mono ?_
  rintro e w12 ⟨t, rfl, hdt, b12⟩
  have z12 := b12.size
  replace hdt := hdt.mono (T := fun k => w11.heap.size ≤ k ∧ k < w12.heap.size) (fun k hk h => ⟨h, hk⟩)
  have HF12 : Hid (Dsk w12 (fun k => (w4.heap.size ≤ k ∧ (k < w6.heap.size ∨ w9.heap.size ≤ k)) ∧ k < w10.heap.size) p 8 D (pws X2 J2) ∧ IIn w12 q2 J2 X2 ∧ IIn w12 q3 J3 X3 ∧ BIn w12 wp 512 D) := ⟨HF11.out.1.later b12, HF11.out.2.1.later b12, HF11.out.2.2.1.later b12, HF11.out.2.2.2.later b12⟩
  have HB12 : Hid (Below w4.heap.size w4 w12) := HB11.out.trans (b12.mono (by have := HZ.out; omega))
  have HT12 : Hid (Dsk w12 (fun k => w11.heap.size ≤ k ∧ k < w12.heap.size) t 8 D (pws X2 J2)) := hdt
  clear HF11 HB11 b12 hdt
  go_wp2_with fail
  refine (crash_any HF12.out.1 (by rw [pws_length]; omega) q3 J3 d3 X3 HF12.out.2.2.1 (by omega)).mono ?_
  rintro e w13 ⟨rfl, hd13, k13⟩
  have z13 := k13.size
  rw [pws_length]
  obtain ⟨E, hE⟩ : ∃ E, settle (keepsK X3) (pws X2 J2) D = E := ⟨_, rfl⟩
  rw [hE] at hd13
  have HE : Hid ((E.length = 64 * 8 ∧ Bytes E) ∧ settle (keepsK X3) (pws X2 J2) D = E) := ⟨by rw [← hE]; exact ⟨setl_length HD.out.1 (fit_pws X2 J2 j2) _, setl_bytes HD.out.2 (fit_pws X2 J2 j2) _⟩, hE⟩
  clear hE
  have HF13 : Hid (Dsk w13 (fun k => (w4.heap.size ≤ k ∧ (k < w6.heap.size ∨ w9.heap.size ≤ k)) ∧ k < w10.heap.size) p 8 E [] ∧ IIn w13 q2 J2 X2 ∧ IIn w13 q3 J3 X3 ∧ BIn w13 wp 512 D ∧ Dsk w13 (fun k => w11.heap.size ≤ k ∧ k < w12.heap.size) t 8 D (pws X2 J2)) := by
    have hz := HZ.out
    refine ⟨hd13, HF12.out.2.1.kept k13 (fun a h hh => by have := HP.out.1 a h; omega), HF12.out.2.2.1.kept k13 (fun a h hh => by have := HP.out.2.1 a h; omega), HF12.out.2.2.2.kept k13 (fun a h hh => by have := HP.out.2.2 a h; omega), HT12.out.kept k13 (fun k h1 h2 => by omega)⟩
  have HB13 : Hid (Below w4.heap.size w4 w13) := HB12.out.trans (k13.below (by have := HZ.out; omega) (fun k h => h.1.1))
  clear HF12 HB12 HT12 hd13 k13
  go_wp2_with fail
  refine (image_any HF13.out.1).mono ?_
  rintro e w14 ⟨v, rfl, hown, b14⟩
  obtain ⟨np, nc, rfl, inw, _⟩ := own_in hown HE.out.1.2
  replace inw : BIn w14 np 512 E := inw
  have z14 := b14.size
  have HF14 : Hid (Dsk w14 (fun k => (w4.heap.size ≤ k ∧ (k < w6.heap.size ∨ w9.heap.size ≤ k)) ∧ k < w10.heap.size) p 8 E [] ∧ IIn w14 q2 J2 X2 ∧ IIn w14 q3 J3 X3 ∧ BIn w14 wp 512 D ∧ Dsk w14 (fun k => w11.heap.size ≤ k ∧ k < w12.heap.size) t 8 D (pws X2 J2) ∧ BIn w14 np 512 E) := ⟨HF13.out.1.later b14, HF13.out.2.1.later b14, HF13.out.2.2.1.later b14, HF13.out.2.2.2.1.later b14, HF13.out.2.2.2.2.later b14, inw⟩
  have HB14 : Hid (Below w4.heap.size w4 w14) := HB13.out.trans (b14.mono (by have := HZ.out; omega))
  clear HF13 HB13 hown b14 inw
  go_wp2_with fail
  refine (waiting_any HF14.out.1 (by simp)).mono ?_
  rintro e W ⟨gw2, vsw2, rfl, _, b15⟩
  simp only [List.length_nil]
  have z15 := b15.size
  have HF : Hid (Dsk W (fun k => (w4.heap.size ≤ k ∧ (k < w6.heap.size ∨ w9.heap.size ≤ k)) ∧ k < w10.heap.size) p 8 E [] ∧ IIn W q2 J2 X2 ∧ IIn W q3 J3 X3 ∧ BIn W wp 512 D ∧ Dsk W (fun k => w11.heap.size ≤ k ∧ k < w12.heap.size) t 8 D (pws X2 J2) ∧ BIn W np 512 E) := ⟨HF14.out.1.later b15, HF14.out.2.1.later b15, HF14.out.2.2.1.later b15, HF14.out.2.2.2.1.later b15, HF14.out.2.2.2.2.1.later b15, HF14.out.2.2.2.2.2.later b15⟩
  have HB : Hid (Below w.heap.size w W) := HB4.out.trans ((HB14.out.trans (b15.mono (by have := HZ.out; omega))).mono HB4.out.size)
  have HZ2 : Hid (w12.heap.size ≤ W.heap.size ∧ w.heap.size ≤ w11.heap.size) := by { have := HZ.out; have := HB4.out.size; exact ⟨by omega, by omega⟩ }
  obtain ⟨wb0, wo0, rfl, _⟩ := HF.out.2.2.2.1.cells (by omega)
  obtain ⟨nb0, no0, rfl, _⟩ := HF.out.2.2.2.2.2.cells (by omega)
  have hwc : 512 ≤ wc := by omega
  have hnc : 512 ≤ nc := by omega
  obtain ⟨ob, hmk, hZ⟩ := made64
  have HZr : Hid (∀ (W : World) (j : Nat) (x : Int), W.heap[j]? = some ob → BRow W j (fillk x 0)) := hZ
  clear HF14 HB14 b15 z9 z10 z11 z12 z13 z14 z15 HB4 HP HZ hZ
  go_wp2
  go_loopw [13] (fun i wr => ∃ s : Nat, s ≤ 8 ∧ i = .int .i64 s ∧ Hid (Below W.heap.size W wr)) (fun i _ => 8 - (intOf i).toNat)
  case atStart => exact ⟨0, by omega, rfl, Below.refl _ _⟩
  case round =>
    obtain ⟨s, hs, rfl, HR⟩ := hrel
    by_cases hs8 : s < 8
    · have e1 : IntKind.i64.wrap ((s : Int) * 64) = (s : Int) * 64 := by rw [IntKind.wrap_i64]; omega
      have e2 : IntKind.i64.wrap ((s : Int) * 64 + 64) = (s : Int) * 64 + 64 := by rw [IntKind.wrap_i64]; omega
      have e3 : (s : Int) * 64 + 64 ≤ (wc : Int) := by omega
      have e4 : ¬ (wc : Int) = (s : Int) * 64 := by omega
      have e5 : (0 : Int) ≤ (s : Int) * 64 := by omega
      have zs := (sec_in (HF.out.2.2.2.1.later HR.out) hs8).str (wc - s * 64)
      obtain ⟨wA, hwA⟩ : ∃ wA, wA = wr := ⟨_, rfl⟩
      subst hwA
      go_wp2
      clear zs e4 e3
      go_loopw [14, 138] (fun v i wr => ∃ k : Nat, k ≤ J2 ∧ i = .int .i64 k ∧ Hid (v = .string (strOfNums (sec (setl (keepsK X3) (pws X2 J2) D k) s))) ∧ Hid (Below W.heap.size W wr)) (fun _ i _ => J2 - (intOf i).toNat)
      case atStart => exact ⟨0, by omega, rfl, rfl, HR.out⟩
      case round =>
        obtain ⟨k, hk, rfl, HV, HR2⟩ := hrel
        clear HR
        by_cases hkJ : k < J2
        · obtain ⟨g2, o2, hq2, hc2⟩ := (HF.out.2.1.later HR2.out).cells (by omega)
          have hck := hc2 k hkJ
          obtain ⟨x, hx⟩ : ∃ x, x = X2.getD k 0 := ⟨_, rfl⟩
          have HXk : Hid (sl8 x = sl8 (X2.getD k 0)) := by show _ = _; rw [hx]
          rw [← hx] at hck
          have HQ2 : Hid (q2 = some ⟨g2, o2, none⟩) := hq2
          clear hx hc2 hq2
          obtain ⟨wB, hwB⟩ : ∃ wB, wB = wr := ⟨_, rfl⟩
          subst hwB
          rw [HQ2.out]
          go_wp2
          clear hck
          go_loopw [14, 145] (fun v i wr => ∃ j : Nat, j ≤ J3 ∧ i = .int .i64 j ∧ Hid (v = .string (strOfNums (want X3 X2 D s k j J2))) ∧ Hid (Below W.heap.size W wr)) (fun _ i _ => J3 - (intOf i).toNat)
          case atStart => exact ⟨0, by omega, rfl, by rw [want_start]; exact HV, HR2.out⟩
          case round =>
            obtain ⟨j, hj, rfl, HV2, HR3⟩ := hrel
            clear HV HR2
            by_cases hjJ : j < J3
            · obtain ⟨g3, o3, hq3, hc3⟩ := (HF.out.2.2.1.later HR3.out).cells (by omega)
              have hcj := hc3 j hjJ
              have hjl : j < X3.length := by rw [HF.out.2.2.1.len]; exact hjJ
              have ey : X3.getD j 0 = X3[j] := by simp [List.getD, List.getElem?_eq_getElem hjl]
              rw [ey] at hcj
              obtain ⟨y, hy⟩ : ∃ y, y = X3[j] := ⟨_, rfl⟩
              have HY : Hid (y = X3[j]) := hy
              rw [← hy] at hcj
              have HQ3 : Hid (q3 = some ⟨g3, o3, none⟩) := hq3
              clear hy hc3 hq3 ey
              obtain ⟨wC, hwC⟩ : ∃ wC, wC = wr := ⟨_, rfl⟩
              subst hwC
              rw [HQ3.out]
              have t0 := tmod8 x
              have t1 := sl8_is x
              obtain ⟨t8, ht8⟩ : ∃ t8, x.tmod 8 = t8 := ⟨_, rfl⟩
              rw [ht8] at t0 t1
              obtain ⟨t00, t01⟩ := t0
              have hsx8 := sl8_lt x
              obtain ⟨sx, hsx⟩ : ∃ sx, sl8 x = sx := ⟨_, rfl⟩
              rw [hsx] at t1 hsx8
              have HSX : Hid (sl8 (X2.getD k 0) = sx) := HXk.out.symm.trans hsx
              clear hsx
              by_cases hyk : y = (k : Int)
              · subst hyk
                by_cases hss : sx = s
                · subst hss
                  have HM : Hid (want X3 X2 D sx k (j + 1) J2 = wb k) := want_hit hjl HY.out.symm HSX.out
                  have HB0 : Hid (Below wC.heap.size wC (wC.alloc ob) ∧ BRow (wC.alloc ob) wC.heap.size (fillk ((k : Int) + 1) 0)) := ⟨below_alloc _ _, HZr.out _ _ _ (heap_alloc_new wC ob)⟩
                  go_wp2
                  clear hcj HV2
                  generalize wC.alloc ob = W1 at *
                  go_loopw [163] (fun i wr => ∃ l : Nat, l ≤ 64 ∧ i = .int .i64 l ∧ Hid (Below wC.heap.size wC wr ∧ BRow wr wC.heap.size (fillk ((k : Int) + 1) l))) (fun i _ => 64 - (intOf i).toNat)
                  case atStart => exact ⟨0, by omega, rfl, HB0.out⟩
                  case round =>
                    obtain ⟨l, hl, rfl, HQ⟩ := hrel
                    clear HB0
                    by_cases hl2 : l < 64
                    · have hll := fillk_length ((k : Int) + 1) l (by omega)
                      have cc1 := HQ.out.2.cell (k := l) (by omega)
                      have ff1 := HQ.out.2.free l
                      have HU : Hid (Below wC.heap.size wC (wr.setCell ⟨wC.heap.size, l, none⟩ (.int .u8 ((k : Int) + 1))) ∧ BRow (wr.setCell ⟨wC.heap.size, l, none⟩ (.int .u8 ((k : Int) + 1))) wC.heap.size (fillk ((k : Int) + 1) (l + 1))) := by
                        refine ⟨HQ.out.1.setCell (Nat.le_refl _) _, ?_⟩
                        rw [← fillk_step _ l hl2]
                        exact HQ.out.2.put l _
                      generalize (fillk ((k : Int) + 1) l)[l] = yy at cc1
                      clear hll HQ
                      have hw1 : ((k : Int) + 1) % 256 = (k : Int) + 1 := by omega
                      go_wp2
                      go_roundw
                      case rel => exact ⟨l + 1, by omega, by go_num, HU.out⟩
                      case measure => simp [intOf]; omega
                    · obtain rfl : l = 64 := by omega
                      have hrow := HQ.out.2
                      rw [fillk_all] at hrow
                      have zz := (hrow.bin (n := 64) (by simp) (wb_bytes k (by omega))).str 64
                      rw [show (List.replicate 64 ((k : Int) + 1)) = wb k from rfl] at zz
                      have HR4 : Hid (Below W.heap.size W wr) := below_then HR3.out HQ.out.1
                      clear hrow HQ
                      go_wp2
                      go_roundw
                      case rel => exact ⟨j + 1, by omega, by go_num, by rw [HM.out]; rfl, HR4⟩
                      case measure => simp [intOf]; omega
                · have HM : Hid (want X3 X2 D s k (j + 1) J2 = want X3 X2 D s k j J2) := want_miss hjl (fun h => hss (HSX.out.symm.trans h.2))
                  have bss : (((sx : Nat) : Int) == (s : Int)) = false := by rw [beq_eq_false_iff_ne]; omega
                  go_wp2
                  go_roundw
                  case rel => exact ⟨j + 1, by omega, by go_num, by rw [HM.out]; exact HV2, HR3⟩
                  case measure => simp [intOf]; omega
              · have HM : Hid (want X3 X2 D s k (j + 1) J2 = want X3 X2 D s k j J2) := want_miss hjl (fun h => hyk (HY.out.trans h.1))
                have byk : (y == (k : Int)) = false := by rw [beq_eq_false_iff_ne]; exact hyk
                go_wp2
                go_roundw
                case rel => exact ⟨j + 1, by omega, by go_num, by rw [HM.out]; exact HV2, HR3⟩
                case measure => simp [intOf]; omega
            · obtain rfl : j = J3 := by omega
              have HV4 : Hid (u14 = .string (strOfNums (sec (setl (keepsK X3) (pws X2 J2) D (k + 1)) s))) := by
                have := HV2.out
                rw [← HF.out.2.2.1.len, want_end hkJ hs8 HD.out.1 (fit_pws X2 J2 j2)] at this
                exact this
              clear HV2
              go_wp2
              go_roundw
              case rel => exact ⟨k + 1, by omega, by go_num, HV4, HR3⟩
              case measure => simp [intOf]; omega
        · obtain rfl : k = J2 := by omega
          have HV4 : Hid (u14 = .string (strOfNums (sec E s))) := by
            have := HV.out
            rw [show setl (keepsK X3) (pws X2 k) D k = E by rw [← HE.out.2]; unfold settle; rw [pws_length]] at this
            exact this
          obtain ⟨wB, hwB⟩ : ∃ wB, wB = wr := ⟨_, rfl⟩
          subst hwB
          clear HV
          go_wp2_with fail
          refine (read_good (HF.out.1.later HR2.out) s hs8).mono ?_
          rintro e wD ⟨vr, rfl, hown, bD⟩
          rw [newest_nil] at hown
          obtain ⟨rp, rc, rfl, hir, _⟩ := own_in hown (HE.out.1.2.sec s)
          have zr := hir.str rc
          have HRD : Hid (Below W.heap.size W wD) := below_then HR2.out bD
          have zn := (sec_in (HF.out.2.2.2.2.2.later HRD.out) hs8).str (nc - s * 64)
          have n3 : (s : Int) * 64 + 64 ≤ (nc : Int) := by omega
          have n4 : ¬ (nc : Int) = (s : Int) * 64 := by omega
          have hu14 := HV4.out
          subst hu14
          clear HV4 hown bD hir HR2
          go_wp2
          go_roundw
          case rel => exact ⟨s + 1, by omega, by go_num, HRD⟩
          case measure => simp [intOf]; omega
    · obtain ⟨wA, hwA⟩ : ∃ wA, wA = wr := ⟨_, rfl⟩
      subst hwA
      obtain ⟨i0, hi0, hz0, hz1, hz2⟩ := info_parts info3
      clear hmk HZr
      go_wp2
      go_loopw [23, 205] (fun v i wr => ∃ k : Nat, k ≤ J2 ∧ i = .int .i64 k ∧ Hid (wr.ownsRow W.heap.size 3 1 v k (I64 (alls J2 k)) ∧ Below W.heap.size W wr)) (fun _ i _ => J2 - (intOf i).toNat)
      case atStart => exact ⟨0, by omega, rfl, World.ownsRow_nil _ _ _ _, HR.out⟩
      case round =>
        obtain ⟨k, hk, rfl, HQ⟩ := hrel
        clear HR
        by_cases hkJ : k < J2
        · obtain ⟨pv, cv, rfl, _⟩ := own_slice HQ.out.1
          have hsz := HQ.out.2.size
          go_wp2_with (at_builtin; refine wpList_append_own _ rfl (.tmp 208) (.tmp 214) 36 rfl W.heap.size 3 i0 (.int .i64 0) 1 8 Try.underlying36 hi0 hz0 hz1 hz2 rfl (by omega) _ k (I64 (alls J2 k)) rfl (HQ.out.1.alloc _) ⟨wr.heap.size, 0, none⟩ 1 1 [.int .i64 ((J2 : Int) - 1 - (k : Int))] rfl rfl (cell_one_new _ _ _) (by simp [Value.oneCell']) (by unfold maxLen; omega) (by omega) (by simp; omega) ?_; intro v' w5 hown hgrow _; have HU : Hid (w5.ownsRow W.heap.size 3 1 v' (k + 1) (I64 (alls J2 (k + 1))) ∧ Below W.heap.size W w5) := ⟨by rw [alls_succ, show I64 (alls J2 k ++ [(J2 : Int) - 1 - (k : Int)]) = I64 (alls J2 k) ++ [.int .i64 ((J2 : Int) - 1 - (k : Int))] by simp [I64]]; exact hown, (HQ.out.2.alloc HQ.out.2.size _).grown hgrow (by simp; omega) (fun j hj => (HQ.out.1.lt j hj).1)⟩; clear hown hgrow)
          go_roundw
          case rel => exact ⟨k + 1, by omega, by go_num, HU⟩
          case measure => simp [intOf]; omega
        · obtain rfl : k = J2 := by omega
          obtain ⟨ap, ac, rfl, iall, _, _, _⟩ := ints_in HQ.out.1
          obtain ⟨wE, hwE⟩ : ∃ wE, wE = wr := ⟨_, rfl⟩
          subst hwE
          have zE := HQ.out.2.size
          have HIA : Hid (IIn wE ap k (alls k k) ∧ Below W.heap.size W wE ∧ (∀ a, ap = some a → W.heap.size ≤ a.block)) := ⟨iall, HQ.out.2, fun a h => by subst h; exact (HQ.out.1.lt a.block rfl).1⟩
          clear iall HQ
          go_wp2_with fail
          refine (copy_any (HF.out.2.2.2.2.1.later HIA.out.2.1) (by rw [pws_length]; omega)).mono ?_
          rintro e wF ⟨fl, rfl, hfl, bF⟩
          have zF := bF.size
          replace hfl := hfl.mono (T := fun k => wE.heap.size ≤ k ∧ k < wF.heap.size) (fun k hk h => ⟨h, hk⟩)
          have HBF : Hid (Below W.heap.size W wF) := below_then HIA.out.2.1 bF
          have hq := HZ2.out
          go_wp2_with fail
          refine (crash_any ((HF.out.2.2.2.2.1.later HIA.out.2.1).later bF) (by rw [pws_length]; omega) ap k ac (alls k k) (HIA.out.1.later bF) (by omega)).mono ?_
          rintro e wG ⟨rfl, htG, kG⟩
          have zG := kG.size
          rw [pws_length]
          replace hfl := hfl.kept kG (fun k h1 h2 => by omega)
          have eF : settle (keepsK (alls k k)) (pws X2 k) D = settle (fun _ => true) (pws X2 k) D := by
            unfold settle
            rw [pws_length]
            exact setl_congr k (fun j hj => alls_mem k j hj)
          rw [eF] at htG
          have hBG : Below w.heap.size w wG := (HB.out.trans (HBF.out.mono HB.out.size)).trans (kG.below (by have := HB.out.size; omega) (fun j h => by have := HB.out.size; omega))
          clear eF bF
          go_wp2_with fail
          refine (flush_any hfl (by rw [pws_length]; omega)).mono ?_
          rintro e wH ⟨rfl, hfH, kH⟩
          have zH := kH.size
          rw [pws_length]
          replace htG := htG.kept kH (fun k h1 h2 => by omega)
          have hBH : Below w.heap.size w wH := hBG.trans (kH.below (by have := HB.out.size; omega) (fun j h => by have := HB.out.size; omega))
          obtain ⟨F, hFF⟩ : ∃ F, settle (fun _ => true) (pws X2 k) D = F := ⟨_, rfl⟩
          have HFb : Hid (Bytes F) := by show Bytes F; rw [← hFF]; exact setl_bytes HD.out.2 (fit_pws X2 k j2) _
          rw [hFF] at htG hfH
          have HT : Hid (Dsk wH.drew (fun k => w11.heap.size ≤ k ∧ k < w12.heap.size) t 8 F [] ∧ Dsk wH.drew (fun k => wE.heap.size ≤ k ∧ k < wF.heap.size) fl 8 F [] ∧ Below w.heap.size w wH.drew) := ⟨htG.later ⟨rfl, rfl, rfl, Nat.le_refl _, fun _ _ => rfl⟩, hfH.later ⟨rfl, rfl, rfl, Nat.le_refl _, fun _ _ => rfl⟩, hBH.drew⟩
          clear htG hfH hBH hBG kH kG hfl HBF HIA HF hFF zE zF zG zH hq
          go_wp2_with fail
          refine wp_region_noPanic ?_
          refine wp_region_held_drew (S := (fun _ => True)) (by kernel_rfl) trivial (fun hHeld => ?_)
          refine wpAnyH_take (i := 0) (v := ?v0x) (by simp; rfl) (by kernel_rfl) (by kernel_rfl) (by kernel_rfl) (fun _ _ _ h => h) (Or.inl ⟨by rfl, ?y0x⟩) hHeld ?r0x
          case y0x => intro w hSw; clear hSw; go_simp; with_reducible rfl
          simp only [Act.put, List.setIfInBounds_toArray, List.set_cons_zero, List.set_cons_succ]
          refine wpAnyH_take (i := 1) (v := ?v1x) (by simp; rfl) (by kernel_rfl) (by kernel_rfl) (by kernel_rfl) (fun _ _ _ h => h) (Or.inl ⟨by rfl, ?y1x⟩) hHeld ?r1x
          case y1x => intro w hSw; clear hSw; go_simp; with_reducible rfl
          simp only [Act.put, List.setIfInBounds_toArray, List.set_cons_zero, List.set_cons_succ]
          refine wpAnyH_take (i := 2) (v := ?v2x) (by simp; rfl) (by kernel_rfl) (by kernel_rfl) (by kernel_rfl) (fun _ _ _ h => h) (Or.inl ⟨by rfl, ?y2x⟩) hHeld ?r2x
          case y2x => intro w hSw; clear hSw; go_simp; with_reducible rfl
          simp only [Act.put, List.setIfInBounds_toArray, List.set_cons_zero, List.set_cons_succ]
          refine wpAnyH_take (i := 3) (v := ?v3x) (by simp; rfl) (by kernel_rfl) (by kernel_rfl) (by kernel_rfl) (fun _ _ _ h => h) (Or.inl ⟨by rfl, ?y3x⟩) hHeld ?r3x
          case y3x => intro w hSw; clear hSw; go_simp; with_reducible rfl
          simp only [Act.put, List.setIfInBounds_toArray, List.set_cons_zero, List.set_cons_succ]
          refine wpAnyH_take (i := 4) (v := ?v4x) (by simp; rfl) (by kernel_rfl) (by kernel_rfl) (by kernel_rfl) (fun _ _ _ h => h) (Or.inl ⟨by rfl, ?y4x⟩) hHeld ?r4x
          case y4x => intro w hSw; clear hSw; go_simp; with_reducible rfl
          simp only [Act.put, List.setIfInBounds_toArray, List.set_cons_zero, List.set_cons_succ]
          refine wpAnyH_take (i := 5) (v := ?v5x) (by simp; rfl) (by kernel_rfl) (by kernel_rfl) (by kernel_rfl) (fun _ _ _ h => h) (Or.inl ⟨by rfl, ?y5x⟩) hHeld ?r5x
          case y5x => intro w hSw; clear hSw; go_simp; with_reducible rfl
          simp only [Act.put, List.setIfInBounds_toArray, List.set_cons_zero, List.set_cons_succ]
          refine wpAnyH_take (i := 6) (v := ?v6x) (by simp; rfl) (by kernel_rfl) (by kernel_rfl) (by kernel_rfl) (fun _ _ _ h => h) (Or.inl ⟨by rfl, ?y6x⟩) hHeld ?r6x
          case y6x => intro w hSw; clear hSw; go_simp; with_reducible rfl
          simp only [Act.put, List.setIfInBounds_toArray, List.set_cons_zero, List.set_cons_succ]
          refine wpAnyH_take (i := 7) (v := ?v7x) (by simp; rfl) (by kernel_rfl) (by kernel_rfl) (by kernel_rfl) (fun _ _ _ h => h) (Or.inl ⟨by rfl, ?y7x⟩) hHeld ?r7x
          case y7x => intro w hSw; clear hSw; go_simp; with_reducible rfl
          simp only [Act.put, List.setIfInBounds_toArray, List.set_cons_zero, List.set_cons_succ]
          refine wpAnyH_take (i := 8) (v := ?v8x) (by simp; rfl) (by kernel_rfl) (by kernel_rfl) (by kernel_rfl) (fun _ _ _ h => h) (Or.inl ⟨by rfl, ?y8x⟩) hHeld ?r8x
          case y8x => intro w hSw; clear hSw; go_simp; with_reducible rfl
          simp only [Act.put, List.setIfInBounds_toArray, List.set_cons_zero, List.set_cons_succ]
          refine wpAnyH_take (i := 9) (v := ?v9x) (by simp; rfl) (by kernel_rfl) (by kernel_rfl) (by kernel_rfl) (fun _ _ _ h => h) (Or.inl ⟨by rfl, ?y9x⟩) hHeld ?r9x
          case y9x => intro w hSw; clear hSw; go_simp; with_reducible rfl
          simp only [Act.put, List.setIfInBounds_toArray, List.set_cons_zero, List.set_cons_succ]
          refine wpAnyH_take (i := 10) (v := ?v10x) (by simp; rfl) (by kernel_rfl) (by kernel_rfl) (by kernel_rfl) (fun _ _ _ h => h) (Or.inl ⟨by rfl, ?y10x⟩) hHeld ?r10x
          case y10x => intro w hSw; clear hSw; go_simp; with_reducible rfl
          simp only [Act.put, List.setIfInBounds_toArray, List.set_cons_zero, List.set_cons_succ]
          refine wpAnyH_take (i := 11) (v := ?v11x) (by simp; rfl) (by kernel_rfl) (by kernel_rfl) (by kernel_rfl) (fun _ _ _ h => h) (Or.inl ⟨by rfl, ?y11x⟩) hHeld ?r11x
          case y11x => intro w hSw; clear hSw; go_simp; with_reducible rfl
          simp only [Act.put, List.setIfInBounds_toArray, List.set_cons_zero, List.set_cons_succ]
          refine wpAnyH_take (i := 12) (v := ?v12x) (by simp; rfl) (by kernel_rfl) (by kernel_rfl) (by kernel_rfl) (fun _ _ _ h => h) (Or.inl ⟨by rfl, ?y12x⟩) hHeld ?r12x
          case y12x => intro w hSw; clear hSw; go_simp; with_reducible rfl
          simp only [Act.put, List.setIfInBounds_toArray, List.set_cons_zero, List.set_cons_succ]
          refine wpAnyH_take (i := 15) (v := ?v15x) (by simp; rfl) (by kernel_rfl) (by kernel_rfl) (by kernel_rfl) (fun _ _ _ h => h) (Or.inl ⟨by rfl, ?y15x⟩) hHeld ?r15x
          case y15x => intro w hSw; clear hSw; go_simp; with_reducible rfl
          simp only [Act.put, List.setIfInBounds_toArray, List.set_cons_zero, List.set_cons_succ]
          refine wpAnyH_ready (rs := [13]) (by kernel_rfl) (by simp) ?_
          refine AllReadyH.cons (by simp; rfl) (fun K' hK => ?_) AllReadyH.nil
          go_simp
          refine (image_any HT.out.1).mono ?_
          rintro e wI ⟨v1, rfl, hown1, b1⟩
          obtain ⟨r1, rc1, rfl, hr1, _⟩ := own_in hown1 HFb.out
          have y1 := hr1.str rc1
          refine hK.out _ _ trivial (fun hHeld => ?_)
          clear hK K'
          refine wpAnyH_ready (rs := [14, 16]) (by kernel_rfl) (by simp) ?_
          refine AllReadyH.cons (by simp; rfl) (fun K' hK => ?_) (AllReadyH.cons (by simp; rfl) (fun K' hK => ?_) AllReadyH.nil)
          · go_simp
            refine hK.out _ _ trivial (fun hHeld => ?_)
            clear hK K'
            refine wpAnyH_ready (rs := [16]) (by kernel_rfl) (by simp) ?_
            refine AllReadyH.cons (by simp; rfl) (fun K' hK => ?_) AllReadyH.nil
            go_simp
            refine (image_any (HT.out.2.1.later b1)).mono ?_
            rintro e wJ ⟨v2, rfl, hown2, b2⟩
            obtain ⟨r2, rc2, rfl, hr2, _⟩ := own_in hown2 HFb.out
            have y2 := hr2.str rc2
            refine hK.out _ _ trivial (fun hHeld => ?_)
            clear hK K' y1
            refine wpAnyH_ready (rs := [17]) (by kernel_rfl) (by simp) ?_
            refine AllReadyH.cons (by simp; rfl) (fun K' hK => ?_) AllReadyH.nil
            go_simp
            refine hK.out _ _ trivial (fun hHeld => ?_)
            clear hK K' y2
            refine wpAnyH_take (i := 18) (v := ?v18a) (by simp; rfl) (by kernel_rfl) (by kernel_rfl) (by kernel_rfl) (fun _ _ _ h => h) (Or.inl ⟨by rfl, ?y18a⟩) hHeld ?r18a
            case y18a => intro w hSw; clear hSw; go_simp; with_reducible rfl
            simp only [Act.put, List.setIfInBounds_toArray, List.set_cons_zero, List.set_cons_succ]
            refine wpAnyH_take (i := 19) (v := ?v19a) (by simp; rfl) (by kernel_rfl) (by kernel_rfl) (by kernel_rfl) (fun _ _ _ h => h) (Or.inl ⟨by rfl, ?y19a⟩) hHeld ?r19a
            case y19a => intro w hSw; clear hSw; go_simp; with_reducible rfl
            simp only [Act.put, List.setIfInBounds_toArray, List.set_cons_zero, List.set_cons_succ]
            refine wpAnyH_take (i := 20) (v := ?v20a) (by simp; rfl) (by kernel_rfl) (by kernel_rfl) (by kernel_rfl) (fun _ _ _ h => h) (Or.inl ⟨by rfl, ?y20a⟩) hHeld ?r20a
            case y20a => intro w hSw; clear hSw; go_simp; with_reducible rfl
            simp only [Act.put, List.setIfInBounds_toArray, List.set_cons_zero, List.set_cons_succ]
            refine wpAnyH_done (by kernel_rfl) (NoPanic.normal ?_) _
            go_wp2
            go_ret
            exact ⟨rfl, below_then (below_then HT.out.2.2 b1) b2⟩
          · go_simp
            refine (image_any (HT.out.2.1.later b1)).mono ?_
            rintro e wJ ⟨v2, rfl, hown2, b2⟩
            obtain ⟨r2, rc2, rfl, hr2, _⟩ := own_in hown2 HFb.out
            have y2 := hr2.str rc2
            replace y1 := (hr1.later b2).str rc1
            refine hK.out _ _ trivial (fun hHeld => ?_)
            clear hK K'
            refine wpAnyH_ready (rs := [14, 17]) (by kernel_rfl) (by simp) ?_
            refine AllReadyH.cons (by simp; rfl) (fun K' hK => ?_) (AllReadyH.cons (by simp; rfl) (fun K' hK => ?_) AllReadyH.nil)
            · go_simp
              refine hK.out _ _ trivial (fun hHeld => ?_)
              clear hK K' y1
              refine wpAnyH_ready (rs := [17]) (by kernel_rfl) (by simp) ?_
              refine AllReadyH.cons (by simp; rfl) (fun K' hK => ?_) AllReadyH.nil
              go_simp
              refine hK.out _ _ trivial (fun hHeld => ?_)
              clear hK K' y2
              refine wpAnyH_take (i := 18) (v := ?v18b) (by simp; rfl) (by kernel_rfl) (by kernel_rfl) (by kernel_rfl) (fun _ _ _ h => h) (Or.inl ⟨by rfl, ?y18b⟩) hHeld ?r18b
              case y18b => intro w hSw; clear hSw; go_simp; with_reducible rfl
              simp only [Act.put, List.setIfInBounds_toArray, List.set_cons_zero, List.set_cons_succ]
              refine wpAnyH_take (i := 19) (v := ?v19b) (by simp; rfl) (by kernel_rfl) (by kernel_rfl) (by kernel_rfl) (fun _ _ _ h => h) (Or.inl ⟨by rfl, ?y19b⟩) hHeld ?r19b
              case y19b => intro w hSw; clear hSw; go_simp; with_reducible rfl
              simp only [Act.put, List.setIfInBounds_toArray, List.set_cons_zero, List.set_cons_succ]
              refine wpAnyH_take (i := 20) (v := ?v20b) (by simp; rfl) (by kernel_rfl) (by kernel_rfl) (by kernel_rfl) (fun _ _ _ h => h) (Or.inl ⟨by rfl, ?y20b⟩) hHeld ?r20b
              case y20b => intro w hSw; clear hSw; go_simp; with_reducible rfl
              simp only [Act.put, List.setIfInBounds_toArray, List.set_cons_zero, List.set_cons_succ]
              refine wpAnyH_done (by kernel_rfl) (NoPanic.normal ?_) _
              go_wp2
              go_ret
              exact ⟨rfl, below_then (below_then HT.out.2.2 b1) b2⟩
            · go_simp
              refine hK.out _ _ trivial (fun hHeld => ?_)
              clear hK K' y2
              refine wpAnyH_ready (rs := [14]) (by kernel_rfl) (by simp) ?_
              refine AllReadyH.cons (by simp; rfl) (fun K' hK => ?_) AllReadyH.nil
              go_simp
              refine hK.out _ _ trivial (fun hHeld => ?_)
              clear hK K' y1
              refine wpAnyH_take (i := 18) (v := ?v18c) (by simp; rfl) (by kernel_rfl) (by kernel_rfl) (by kernel_rfl) (fun _ _ _ h => h) (Or.inl ⟨by rfl, ?y18c⟩) hHeld ?r18c
              case y18c => intro w hSw; clear hSw; go_simp; with_reducible rfl
              simp only [Act.put, List.setIfInBounds_toArray, List.set_cons_zero, List.set_cons_succ]
              refine wpAnyH_take (i := 19) (v := ?v19c) (by simp; rfl) (by kernel_rfl) (by kernel_rfl) (by kernel_rfl) (fun _ _ _ h => h) (Or.inl ⟨by rfl, ?y19c⟩) hHeld ?r19c
              case y19c => intro w hSw; clear hSw; go_simp; with_reducible rfl
              simp only [Act.put, List.setIfInBounds_toArray, List.set_cons_zero, List.set_cons_succ]
              refine wpAnyH_take (i := 20) (v := ?v20c) (by simp; rfl) (by kernel_rfl) (by kernel_rfl) (by kernel_rfl) (fun _ _ _ h => h) (Or.inl ⟨by rfl, ?y20c⟩) hHeld ?r20c
              case y20c => intro w hSw; clear hSw; go_simp; with_reducible rfl
              simp only [Act.put, List.setIfInBounds_toArray, List.set_cons_zero, List.set_cons_succ]
              refine wpAnyH_done (by kernel_rfl) (NoPanic.normal ?_) _
              go_wp2
              go_ret
              exact ⟨rfl, below_then (below_then HT.out.2.2 b1) b2⟩
end Go.Proofs.Ytlidjenkicgldaa
