/-
  Layer 5: the document's Both.
-/
import Derived.Test.YtcmcifihhlfnbaaGb
namespace Go.Proofs.Ytcmcifihhlfnbaa
open Go.RowKit

theorem take_snoc {xs : List Int} {k : Nat} (hk : k < xs.length) : xs.take (k + 1) = xs.take k ++ [xs.getD k 0] := by
  rw [List.take_succ_eq_append_getElem hk, List.getD, List.getElem?_eq_getElem hk]
  rfl
theorem both_skip {xs ys : List Int} {k : Nat} (hk : k < xs.length) (h : hasS ys (xs.getD k 0) = false ∨ hasS (bothS (xs.take k) ys) (xs.getD k 0) = true) : bothS (xs.take (k + 1)) ys = bothS (xs.take k) ys := by
  symm
  refine bothS_eq (up_bothS _ _) fun z => ?_
  rw [mem_bothS, take_snoc hk, List.mem_append, List.mem_singleton]
  constructor
  · rintro ⟨h1, h2⟩; exact ⟨.inl h1, h2⟩
  · rintro ⟨h1 | rfl, h2⟩
    · exact ⟨h1, h2⟩
    · rcases h with h | h
      · rw [hasS_iff.2 h2] at h; cases h
      · exact (mem_bothS _ _ _).1 (hasS_iff.1 h)
theorem both_take {xs ys P Q : List Int} {k : Nat} {x : Int} (hk : k < xs.length) (hx : xs.getD k 0 = x) (hy : hasS ys x = true) (hPQ : P ++ Q = bothS (xs.take k) ys) (hu : Up (P ++ x :: Q)) : P ++ x :: Q = bothS (xs.take (k + 1)) ys := by
  refine bothS_eq hu fun z => ?_
  have hm := mem_bothS (xs.take k) ys z
  rw [← hPQ, List.mem_append] at hm
  rw [take_snoc hk, hx, List.mem_append, List.mem_cons, List.mem_append, List.mem_singleton]
  constructor
  · rintro (h | rfl | h)
    · have := hm.1 (.inl h); exact ⟨.inl this.1, this.2⟩
    · exact ⟨.inr rfl, hasS_iff.1 hy⟩
    · have := hm.1 (.inr h); exact ⟨.inl this.1, this.2⟩
  · rintro ⟨h1 | rfl, h2⟩
    · rcases hm.2 ⟨h1, h2⟩ with h | h
      · exact .inl h
      · exact .inr (.inr h)
    · exact .inr (.inl rfl)
theorem up_put {P Q : List Int} {x : Int} (h : Up (P ++ Q)) (hP : ∀ y ∈ P, y < x) (hQ : ∀ y ∈ Q, x < y) : Up (P ++ x :: Q) := by
  have h' := List.pairwise_append.1 h
  refine List.pairwise_append.2 ⟨h'.1, List.pairwise_cons.2 ⟨hQ, h'.2.1⟩, fun a ha b hb => ?_⟩
  rcases List.mem_cons.1 hb with rfl | hb
  · exact hP a ha
  · exact h'.2.2 a ha b hb
theorem up_last {P Q : List Int} {a x : Int} (h : Up ((P ++ [a]) ++ Q)) (hax : a < x) : ∀ y ∈ P ++ [a], y < x := by
  have h' := (List.pairwise_append.1 (List.pairwise_append.1 h).1)
  intro y hy
  rcases List.mem_append.1 hy with hy | hy
  · have := h'.2.2 y hy a (by simp); omega
  · obtain rfl := List.mem_singleton.1 hy; exact hax
theorem snoc_at {P Q : List Int} {a x : Int} : ((P ++ [a]) ++ x :: Q).getD P.length 0 = a ∧ ((P ++ [a]) ++ x :: Q).getD (P.length + 1) 0 = x := by
  constructor <;> simp [List.getD]
theorem snoc_swap {P Q : List Int} {a x : Int} : ((((P ++ [a]) ++ x :: Q)).set P.length x).set (P.length + 1) a = P ++ x :: ([a] ++ Q) := by
  simp
theorem snoc_cases (P : List Int) : P = [] ∨ ∃ P' a, P = P' ++ [a] := by
  rcases List.eq_nil_or_concat P with h | ⟨P', a, h⟩
  · exact .inl h
  · exact .inr ⟨P', a, by rw [h, List.concat_eq_append]⟩

set_option maxRecDepth 100000 in
set_option maxHeartbeats 4000000 in
/-- the document's Both -/
theorem rboth_is (p q : Option Addr) (n c m d : Nat) (xs ys : List Int) (w : World) (hn : n + 80 ≤ 17592186044416) (hm : m + 80 ≤ 17592186044416) (hx : IIn w p n xs) (hy : IIn w q m ys) :
    Calls Try.prog 20 #[.slice p n c, .slice q m d] w fun e' w' => ∃ r k, e' = .returned (.slice r (bothS xs ys).length k) ∧ Made w w' r (bothS xs ys).length k (bothS xs ys) := by
  obtain ⟨i0, hi, hz0, hz1, hz2⟩ := info_parts info3
  have HX : Hid (IIn w p n xs) := hx
  have HY : Hid (IIn w q m ys) := hy
  clear hx hy
  go_enter Try.func20, Try.ntmps20
  go_wp2
  go_loopw [5, 6] (fun v i wr => ∃ (k L : Nat) (acc : List Int), k ≤ n ∧ i = .int .i64 k ∧ Hid (acc = bothS (xs.take k) ys) ∧ acc.length = L ∧ Hid (wr.ownsRow w.heap.size 3 1 v L (I64 acc)) ∧ Hid (Below w.heap.size w wr)) (fun _ i _ => n - (intOf i).toNat)
  case atStart => exact ⟨0, 0, [], Nat.zero_le _, rfl, rfl, rfl, World.ownsRow_nil _ _ _ _, Below.refl _ _⟩
  case round =>
    obtain ⟨k, L, acc, hk, rfl, HE, hL, HO, HB⟩ := hrel
    have hLb : L ≤ n := by
      have := bothS_length (xs.take k) ys
      rw [← HE.out, hL, List.length_take] at this
      omega
    obtain ⟨r, cr, rfl, hR, _⟩ := ints_in HO.out
    have HR : Hid (IIn wr r L acc) := hR
    have HL : Hid (acc.length = L) := hL
    clear hR hL
    by_cases hlt : k < n
    · have hkx : k < xs.length := by rw [HX.out.len]; exact hlt
      obtain ⟨b', o, rfl, hcs⟩ := HX.out.cells (by omega)
      have hc := (HB.out.cell (p := ⟨b', o + k, none⟩) (HX.out.lt (by omega))).trans (hcs k hlt)
      have HSK := fun h => both_skip (xs := xs) (ys := ys) hkx h
      have HTK : Hid (∀ P Q x, xs.getD k 0 = x → hasS ys x = true → P ++ Q = bothS (xs.take k) ys → Up (P ++ x :: Q) → P ++ x :: Q = bothS (xs.take (k + 1)) ys) := fun P Q x h1 h2 h3 h4 => both_take hkx h1 h2 h3 h4
      obtain ⟨x, hxk⟩ : ∃ x, xs.getD k 0 = x := ⟨_, rfl⟩
      have HXK : Hid (xs.getD k 0 = x) := hxk
      rw [hxk] at hc HSK
      have HSK2 : Hid (hasS ys x = false ∨ hasS acc x = true → acc = bothS (xs.take (k + 1)) ys) := fun h => by
        rw [HSK (by rw [← HE.out]; exact h)]; exact HE.out
      clear hxk hcs HSK hkx
      have i1 : (k : Int) < (n : Int) := by omega
      go_wp2_with fail
      refine (rhas_is q m d ys x wr (HY.out.later HB.out) (by omega)).mono ?_
      rintro e w1 ⟨rfl, rfl⟩
      cases hh : hasS ys x with
      | false =>
        have HE2 : Hid (acc = bothS (xs.take (k + 1)) ys) := HSK2.out (.inl hh)
        go_wp2
        go_roundw
        case rel => exact ⟨k + 1, L, acc, by omega, by go_num, HE2, HL.out, HO, HB⟩
        case measure => simp [intOf]; omega
      | true =>
        go_wp2_with fail
        refine (rhas_is r L cr acc x wr HR.out (by omega)).mono ?_
        rintro e w1 ⟨rfl, rfl⟩
        cases h2 : hasS acc x with
        | true =>
          have HE2 : Hid (acc = bothS (xs.take (k + 1)) ys) := HSK2.out (.inr h2)
          go_wp2
          go_roundw
          case rel => exact ⟨k + 1, L, acc, by omega, by go_num, HE2, HL.out, HO, HB⟩
          case measure => simp [intOf]; omega
        | false =>
          have HNX : Hid (∀ a ∈ acc, a ≠ x) := fun a ha e => by
            subst e
            rw [hasS_iff.2 ha] at h2
            cases h2
          have HHH : Hid (hasS ys x = true) := hh
          clear h2 hh HSK2 HR
          go_wp2_with (at_builtin; refine wpList_append_lies _ rfl (.tmp 29) (.tmp 34) 23 rfl w.heap.size 3 i0 (.int .i64 0) 1 8 Try.underlying23 hi hz0 hz1 hz2 rfl (by omega) _ L (I64 acc) rfl (HO.out.alloc _) ⟨_, 0, none⟩ 1 1 [.int .i64 x] rfl rfl (cell_one_new _ _ _) (one_i64 _) (by omega) (by unfold maxLen; omega) (by omega) (by have := HB.out.size; simp; omega) _ rfl ?_)
          intro g cap w2 hown hgrow hat hlt2
          have HO2 : Hid (w2.ownsRow w.heap.size 3 1 (.slice (some ⟨g, 0, none⟩) (L + 1) cap) (L + 1) (I64 (acc ++ [x]))) := by
            have e : I64 (acc ++ [x]) = I64 acc ++ [Value.int .i64 x] := by simp [I64]
            rw [e]
            exact hown
          have HB2 : Hid (Below w.heap.size w w2) := (HB.out.alloc HB.out.size _).grown hgrow (by have := HB.out.size; simp; omega) (fun k hk => (HO.out.lt k hk).1)
          have HGB : Hid (w.heap.size ≤ g) := (HO2.out.lt g rfl).1
          clear hown hgrow hat hlt2 HO HB hc
          have HUP : Hid (Up acc) := by rw [HE.out]; exact up_bothS _ _
          go_wp2
          go_loopw [7] (fun i w3 => ∃ (P Q : List Int) (K : Nat), P ++ Q = acc ∧ P.length = K ∧ i = .int .i64 K ∧ K ≤ L ∧ Hid (∀ y ∈ Q, x < y) ∧ Hid (w3.ownsRow w.heap.size 3 1 (.slice (some ⟨g, 0, none⟩) (L + 1) cap) (L + 1) (I64 ((P ++ x :: Q) ++ []))) ∧ Hid (Below w.heap.size w w3)) (fun i _ => (intOf i).toNat)
          case atStart => exact ⟨acc, [], L, by simp, HL.out, by go_num, Nat.le_refl _, fun y hy => absurd hy (by simp), by have h := HO2.out; show World.ownsRow _ _ _ _ _ _ _; simpa [I64] using h, HB2.out⟩
          case round =>
            obtain ⟨P, Q, K, hPQ, hPK, rfl, hKL, HQ, HW, HBW⟩ := hrel
            have HPQ : Hid (P ++ Q = acc) := hPQ
            clear hPQ
            rcases snoc_cases P with rfl | ⟨P', a, rfl⟩
            · obtain rfl : K = 0 := by simpa using hPK.symm
              have HE2 : Hid (([] : List Int) ++ x :: Q = bothS (xs.take (k + 1)) ys) := HTK.out [] Q x HXK.out HHH.out (by rw [HPQ.out]; exact HE.out) (up_put (by rw [HPQ.out]; exact HUP.out) (fun y hy => absurd hy (by simp)) HQ.out)
              have HL2 : Hid ((([] : List Int) ++ x :: Q).length = L + 1) := by
                have := HPQ.out; have h2 := HL.out; rw [← this] at h2; show _ = _; simpa using h2
              go_wp2
              go_quiet (fail)
              go_wp2
              go_roundw
              case rel => exact ⟨k + 1, L + 1, [] ++ x :: Q, by omega, by go_num, HE2, HL2.out, by have h := own_drawn HW.out nq; show World.ownsRow _ _ _ _ _ _ _; simpa [I64] using h, HBW.out.trans (below_drawn _)⟩
              case measure => simp [intOf]; omega
            · obtain ⟨J, rfl⟩ : ∃ J, K = J + 1 := ⟨P'.length, by simpa using hPK.symm⟩
              have hPJ : P'.length = J := by simpa using hPK
              have hs := snoc_at (P := P') (Q := Q) (a := a) (x := x)
              rw [hPJ] at hs
              have hlen : ((P' ++ [a]) ++ x :: Q).length = L + 1 := by
                have h2 := HL.out; rw [← HPQ.out] at h2; simp at h2 ⊢; omega
              have ca := row_cell HW.out (i := J) (by omega)
              have cx := row_cell HW.out (i := J + 1) (by omega)
              rw [hs.1] at ca
              rw [hs.2] at cx
              have fa := HW.out.frozenAt J
              have fx := HW.out.frozenAt (J + 1)
              have i4 : (0 : Int) < (J : Int) + 1 := by omega
              have i5 : (J : Int) < (L : Int) + 1 := by omega
              have i6 : (J : Int) + 1 < (L : Int) + 1 := by omega
              have HLN : Hid (((P' ++ [a]) ++ x :: Q).length = L + 1) := hlen
              clear hs hPK hlen
              by_cases hax : x < a
              · have HN : Hid (∀ nq, ((((wr.drewN nq).setCell ⟨g, J, none⟩ (.int .i64 x)).setCell ⟨g, J + 1, none⟩ (.int .i64 a)).ownsRow w.heap.size 3 1 (.slice (some ⟨g, 0, none⟩) (L + 1) cap) (L + 1) (I64 ((P' ++ x :: ([a] ++ Q)) ++ []))) ∧ Below w.heap.size w (((wr.drewN nq).setCell ⟨g, J, none⟩ (.int .i64 x)).setCell ⟨g, J + 1, none⟩ (.int .i64 a))) := fun nq => by
                  have r1 := row_put (own_drawn HW.out nq) (i := J) (x := x) (by rw [HLN.out]; omega)
                  have r2 := row_put r1.1 (i := J + 1) (x := a) (by rw [List.length_set, HLN.out]; omega)
                  refine ⟨?_, ?_⟩
                  · have h := r2.1
                    rw [← hPJ, snoc_swap] at h
                    rw [← hPJ]
                    exact h
                  · exact ((HBW.out.trans (below_drawn nq)).grown r1.2 (by have := HBW.out.size; simpa using this) (fun k hk => by cases hk; exact HGB.out)).grown r2.2 (by have := HBW.out.size; simpa using this) (fun k hk => by cases hk; exact HGB.out)
                go_wp2
                go_quiet (fail)
                go_wp2
                go_region
                go_wp2
                go_roundw
                case rel => exact ⟨P', [a] ++ Q, J, by rw [← HPQ.out]; simp, hPJ, by go_num, by omega, fun y hy => by
                  rcases List.mem_append.1 hy with h | h
                  · obtain rfl := List.mem_singleton.1 h; exact hax
                  · exact HQ.out y h, (HN.out (nq + 1)).1, (HN.out (nq + 1)).2⟩
                case measure => simp [intOf]
              · have hne : a ≠ x := HNX.out a (by rw [← HPQ.out]; simp)
                have hax2 : a < x := by omega
                have HE2 : Hid ((P' ++ [a]) ++ x :: Q = bothS (xs.take (k + 1)) ys) := HTK.out (P' ++ [a]) Q x HXK.out HHH.out (by rw [HPQ.out]; exact HE.out) (up_put (by rw [HPQ.out]; exact HUP.out) (up_last (by rw [HPQ.out]; exact HUP.out) hax2) HQ.out)
                clear hne
                go_wp2
                go_quiet (fail)
                go_wp2
                go_roundw
                case rel => exact ⟨k + 1, L + 1, (P' ++ [a]) ++ x :: Q, by omega, by go_num, HE2, HLN.out, by have h := own_drawn HW.out nq; show World.ownsRow _ _ _ _ _ _ _; rw [List.append_nil] at h; exact h, HBW.out.trans (below_drawn _)⟩
                case measure => simp [intOf]; omega
    · obtain rfl : k = n := by omega
      have HE2 : Hid (acc = bothS xs ys) := by have := HE.out; rw [List.take_of_length_le (by rw [HX.out.len]; exact Nat.le_refl _)] at this; exact this
      have HM : Hid (Made w wr r acc.length cr acc) := ⟨by have h := HO.out; rw [HL.out]; exact h, HB.out⟩
      rw [← HL.out] at HO ⊢
      go_wp2
      go_ret
      exact ⟨r, cr, by rw [← HE2.out]; rfl, by rw [← HE2.out]; exact HM.out⟩

end Go.Proofs.Ytcmcifihhlfnbaa
