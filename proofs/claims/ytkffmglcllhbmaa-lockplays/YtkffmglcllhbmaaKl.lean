/-
  Layer 14: crowd.
-/
import Derived.Test.YtkffmglcllhbmaaKk
namespace Go.Proofs.Ytkffmglcllhbmaa
open Go.RowKit


/-- the sets of a crowd -/
def SW (W : List (Value × List Int)) (i : Nat) : List Int := (W.getD i (nils, [])).2
theorem SW_in {W : List (Value × List Int)} {i : Nat} (h : i < W.length) : W[i] = ((W[i]).1, SW W i) := by
  simp [SW, List.getD, h]
theorem SW_old {W : List (Value × List Int)} {x : Value × List Int} {i : Nat} (h : i < W.length) : SW (W ++ [x]) i = SW W i := by simp [SW, List.getD, List.getElem?_append_left h]
theorem SW_new {W : List (Value × List Int)} {x : Value × List Int} : SW (W ++ [x]) W.length = x.2 := by simp [SW, List.getD]
/-- the list of the sets -/
structure Wt (w0 w : World) (v : Value) (W : List (Value × List Int)) : Prop where
  own : w.ownsRow w0.heap.size 37 1 v W.length (W.map Prod.fst)
  frm : ∀ x ∈ W, Frm w x.1 x.2 ∧ ∀ g, blk x.1 = some g → w0.heap.size ≤ g
theorem ints_ne : ¬ kinds 37 := by intro h; rcases h with e | e | e | e | e <;> cases e
theorem Own.kept' {base : Nat} {e : TypeId} {w w' : World} {v : Value} {n : Nat} {xs : List Value} (h : w.ownsRow base e 1 v n xs) (hk : ∀ g, blk v = some g → g < w.heap.size → kd w g = e → w'.heap[g]? = w.heap[g]?) : w'.ownsRow base e 1 v n xs := by
  refine ⟨h.1, ?_⟩
  rcases h.2 with h2 | ⟨g, cap, cur, he, h1, hg, r⟩
  · exact .inl h2
  · exact .inr ⟨g, cap, cur, he, h1, (hk g (by rw [he]; rfl) (Array.getElem?_eq_some_iff.1 hg).1 (kd_cells hg)).trans hg, r⟩
theorem Ks.row {base : Nat} {e : TypeId} {w w' : World} {v : Value} {n : Nat} {xs : List Value} (hk : Ks w w') (he : ¬ kinds e) (h : w.ownsRow base e 1 v n xs) : w'.ownsRow base e 1 v n xs := Own.kept' h fun g _ hl hg => hk.block g hl (by rw [hg]; exact he)
theorem Wt.later {w0 w w' : World} {v : Value} {W : List (Value × List Int)} (h : Wt w0 w v W) (hb : Below w.heap.size w w') : Wt w0 w' v W := ⟨B.own_later h.own hb, fun x hx => ⟨(h.frm x hx).1.later hb, (h.frm x hx).2⟩⟩
theorem Wt.ks {w0 w w' : World} {v : Value} {W : List (Value × List Int)} (h : Wt w0 w v W) (hk : Ks w w') : Wt w0 w' v W := ⟨hk.row ints_ne h.own, fun x hx => ⟨hk.frm (h.frm x hx).1, (h.frm x hx).2⟩⟩
theorem info_ints : (Try.prog.info? 37).map (fun i => (i.zero, i.size, i.bytes)) = some (some nils, 1, 24) := by kernel_rfl
abbrev crowdA (N : Nat) (W : List (Value × List Int)) : Lk := ⟨N, W.length, entF W.length (SW W) (fun _ => 0) (fun _ => false)⟩
theorem crowd_step {N : Nat} {W : List (Value × List Int)} {v : Value} {s : List Int} (h1 : s ≠ []) (h2 : s.Pairwise (· < ·)) (h3 : ∀ b ∈ s, 0 ≤ b ∧ b < N) : layE (crowdA N W) ((W.length : Int) + 1) s = 0 ∧ layS (crowdA N W) ((W.length : Int) + 1) s = crowdA N (W ++ [(v, s)]) := by
  have h0 : layE (crowdA N W) ((W.length : Int) + 1) s = 0 := layE_zero.2 ⟨h1, h2, h3, by show (W.length : Int) < _; omega⟩
  refine ⟨h0, ?_⟩
  unfold layS
  rw [if_pos h0]
  have e1 : entF (W ++ [(v, s)]).length (SW (W ++ [(v, s)])) (fun _ => 0) (fun _ => false) = entF W.length (SW W) (fun _ => 0) (fun _ => false) ++ [⟨(W.length : Int) + 1, s, 0⟩] := by
    rw [List.length_append, List.length_singleton, entF_snoc, SW_new, entF_congr (S := SW W) (d := fun _ => 0) (g := fun _ => false)]
    intro i hi
    exact ⟨SW_old hi, rfl, rfl⟩
  show Lk.mk _ _ _ = Lk.mk _ _ _
  rw [e1]
  simp
theorem iin_clone {w : World} {base : Nat} {v : Value} {n : Nat} {s : List Int} (h : w.ownsRow base 3 1 v n (B.I64 s)) : ∀ ad p c, v = .slice p n c → p = some ad → kd w ad.block = 3 := fun ad p c e e2 => by
  subst e e2
  exact ((own_shape h).choose_spec.choose_spec.2.2.2.1 _ rfl).2.2
set_option maxHeartbeats 2000000 in
set_option maxRecDepth 100000 in
theorem crowd_any (w : World) (N : Nat) (h1 : 1 ≤ N) (h9 : N ≤ 9) {p : Option Addr} {m c : Nat} {xs : List Int} (hU : UIn w p m xs) (hx : ∀ x ∈ xs, U64 x) (hm : m ≤ 17592186044416) : Calls Try.prog 9 #[.int .i64 N, .slice p m c] w fun e w' => ∃ Q p' c' W, e = .returned (.tuple #[qp Q, .slice p' W.length c']) ∧ Own w w' Q 10 (crowdA N W) (fun _ => False) ∧ Wt w w' (.slice p' W.length c') W ∧ W.length ≤ 10 := by
  obtain ⟨i0, hi, hz0, hz1, hz2⟩ := info_parts B.info3
  obtain ⟨i1, hi1, hy0, hy1, hy2⟩ := info_parts info_ints
  have hml : 1000 ≤ maxLen := by decide
  have HU : Hid (UIn w p m xs ∧ ∀ x ∈ xs, U64 x) := ⟨hU, hx⟩
  clear hU hx
  go_enter Try.func9, Try.ntmps9
  go_wp2_with (first | (go_at_call 13; refine (num_is _ _).mono ?_; rintro e w' ⟨rfl, rfl⟩) | (go_at_call 27; refine (o_new w (Below.refl _ w) h1 (by omega)).mono ?_; rintro e w1 ⟨Q, rfl, h2, -⟩; have H1 : Hid (Own w w1 Q 0 ⟨N, 0, []⟩ (fun _ => False)) := h2; clear h2))
  go_loopw [8, 9] (fun v i wr => ∃ W : List (Value × List Int), W.length ≤ 10 ∧ W.length ≤ m ∧ i = .int .i64 W.length ∧ (∃ p c, v = .slice p W.length c) ∧ Hid (Own w wr Q W.length (crowdA N W) (fun _ => False) ∧ Wt w wr v W)) (fun _ i _ => 10 - (intOf i).toNat)
  case atStart => exact ⟨[], by simp, by simp, rfl, ⟨none, 0, rfl⟩, H1.out, World.ownsRow_nil _ _ _ _, fun x hx => by cases hx⟩
  case round =>
    obtain ⟨W, hW10, hWm, rfl, ⟨pv, cv, rfl⟩, HW⟩ := hrel
    clear H1
    by_cases hlt : W.length < m ∧ W.length < 10
    · obtain ⟨b, o, rfl, hcs⟩ := HU.out.1.cells (by omega)
      have cs : wr.cell? ⟨b, o + W.length, none⟩ = some (.int .u64 (xs.getD W.length 0)) := by
        have hblt := World.block_lt_of_cell? w _ (hcs W.length hlt.1)
        rw [HW.out.1.below.cell (p := ⟨b, o + W.length, none⟩) hblt, hcs W.length hlt.1]
      have HX : Hid (U64 (xs.getD W.length 0)) := HU.out.2 _ (by rw [List.getD, List.getElem?_eq_getElem (by have := HU.out.1.len; omega)]; exact List.getElem_mem _)
      have j1 : (W.length : Int) < (m : Int) := by omega
      have j2 : (W.length : Int) < 10 := by omega
      clear hcs
      generalize xs.getD W.length 0 = x at *
      go_wp2_with fail
      refine (set_any x HX.out N h1 h9 wr).mono ?_
      rintro e w2 ⟨ps, cs2, s, rfl, o2, b2, s1, s2, s3⟩
      have hsl : s.length ≤ N := up_len N 0 s s2 (fun b hb => by have := s3 b hb; omega)
      obtain ⟨ps', cs', es, hI2, hsc, hps0, _⟩ := B.ints_in o2
      simp only [Value.slice.injEq, true_and] at es
      obtain ⟨rfl, rfl⟩ := es
      have H2 : Hid (w2.ownsRow wr.heap.size 3 1 (.slice ps s.length cs2) s.length (B.I64 s) ∧ Below wr.heap.size wr w2 ∧ B.IIn w2 ps s.length s) := ⟨o2, b2, hI2⟩
      have HS : Hid (s ≠ [] ∧ s.Pairwise (· < ·) ∧ ∀ b ∈ s, 0 ≤ b ∧ b < N) := ⟨s1, s2, s3⟩
      clear o2 b2 s1 s2 s3 hI2
      go_wp2_with (at_builtin; refine wpList_app rfl (.tmp 43) (.tmp 44) 37 rfl 3 i0 (.int .i64 0) 8 Try.underlying37 hi hz0 hz1 hz2 rfl w2 (below_alloc _ _) (.slice (some ⟨w2.heap.size, 0, none⟩) 0 0) [] rfl (empty_own w2) ps s.length cs2 (B.I64 s) rfl hps0 hsc (B.I64_length s) (H2.out.2.2.later (below_alloc w2 _)).newsAny (B.ones_i64 s) (by simp; omega) (by simp; omega) ?_; intro p3 c3 w3 o3 b3 _; have o3' : w3.ownsRow w2.heap.size 3 1 (.slice p3 s.length c3) s.length (B.I64 s) := (by simpa [B.I64] using o3); have H3 : Hid (w3.ownsRow w2.heap.size 3 1 (.slice p3 s.length c3) s.length (B.I64 s) ∧ Below w2.heap.size w2 w3) := ⟨o3', b3⟩; clear o3 o3' b3)
      have HO3 : Hid (Own w w3 Q W.length (crowdA N W) (fun _ => False) ∧ Wt w w3 (.slice pv W.length cv) W ∧ Frm w3 (.slice ps s.length cs2) s) := ⟨(HW.out.1.later H2.out.2.1).later H3.out.2, (HW.out.2.later H2.out.2.1).later H3.out.2, (show Frm w2 (.slice ps s.length cs2) s from B.own_mono H2.out.1 (Nat.zero_le _)).later H3.out.2⟩
      have HG : Hid (∀ g, blk (.slice ps s.length cs2) = some g → w.heap.size ≤ g) := fun g hg => Nat.le_trans HW.out.1.below.size (own_blk H2.out.1 hg)
      obtain ⟨p3', c3', e3, hI3, hsc3, hp30, _⟩ := B.ints_in H3.out.1
      simp only [Value.slice.injEq, true_and] at e3
      obtain ⟨rfl, rfl⟩ := e3
      have HK3 : Hid (∀ ad, p3 = some ad → kd w3 ad.block = 3) := fun ad e => iin_clone H3.out.1 ad p3 c3 rfl e
      obtain ⟨e0, eS⟩ := crowd_step (N := N) (W := W) (v := .slice ps s.length cs2) HS.out.1 HS.out.2.1 HS.out.2.2
      have HE0 : Hid (layE (crowdA N W) ((W.length : Int) + 1) s = 0 ∧ layS (crowdA N W) ((W.length : Int) + 1) s = crowdA N (W ++ [(.slice ps s.length cs2, s)])) := ⟨e0, eS⟩
      have HI3 : Hid (B.IIn w3 p3 s.length s) := hI3
      clear HW H2 H3 HS hI3 e0 eS
      refine (o_lay HO3.out.1 (by omega) (u64_small (by omega) (by omega)) HI3.out hsc3 hp30 (by omega) HK3.out (E := 0) HE0.out.1 (a' := crowdA N (W ++ [(.slice ps s.length cs2, s)])) HE0.out.2).mono ?_
      rintro e w4 ⟨rfl, o4, k4⟩
      have H4 : Hid (Own w w4 Q (W.length + 1) (crowdA N (W ++ [(.slice ps s.length cs2, s)])) (fun _ => False) ∧ Wt w w4 (.slice pv W.length cv) W ∧ Frm w4 (.slice ps s.length cs2) s) := ⟨o4, HO3.out.2.1.ks k4, k4.frm HO3.out.2.2⟩
      have HOA : Hid ((w4.alloc (.cells #[.slice ps s.length cs2] 37)).ownsRow w.heap.size 37 1 (.slice pv W.length cv) (W.map Prod.fst).length (W.map Prod.fst)) := by rw [List.length_map]; exact B.own_later H4.out.2.1.own (below_alloc _ _)
      clear o4 k4 HO3 HI3 HE0 HK3 hsc3 hp30
      go_wp2_with (first | (go_at_call 13; refine (num_is _ _).mono ?_; rintro e w' ⟨rfl, rfl⟩) | (at_builtin; refine wpList_app rfl (.tmp 49) (.tmp 51) 25 rfl 37 i1 nils 24 Try.underlying25 hi1 hy0 hy1 hy2 rfl w (below_then H4.out.1.below (below_alloc _ _)) (.slice pv W.length cv) (W.map Prod.fst) rfl HOA.out (some ⟨w4.heap.size, 0, none⟩) 1 1 [.slice ps s.length cs2] rfl (fun e => by cases e) (by decide) rfl (one_news _ _) (fun u hu => by simp at hu; subst hu; rfl) (by rw [List.length_map]; omega) (by rw [List.length_map]; omega) ?_; intro p5 c5 w5 o5 b5 k5; have o5' : w5.ownsRow w.heap.size 37 1 (.slice p5 (W ++ [(Value.slice ps s.length cs2, s)]).length c5) (W ++ [(Value.slice ps s.length cs2, s)]).length ((W ++ [(Value.slice ps s.length cs2, s)]).map Prod.fst) := (by simpa using o5); have H5 : Hid (w5.ownsRow w.heap.size 37 1 (.slice p5 (W ++ [(Value.slice ps s.length cs2, s)]).length c5) (W ++ [(Value.slice ps s.length cs2, s)]).length ((W ++ [(Value.slice ps s.length cs2, s)]).map Prod.fst) ∧ Kept (fun b => blk (.slice pv W.length cv) = some b) (w4.alloc (.cells #[.slice ps s.length cs2] 37)) w5) := ⟨o5', k5⟩; clear o5 o5' b5 k5))
      go_roundw
      case rel =>
        have hgk : ∀ g, blk (.slice pv W.length cv) = some g → w.heap.size ≤ g ∧ g < (w4.alloc (.cells #[.slice ps s.length cs2] 37)).heap.size ∧ kd (w4.alloc (.cells #[.slice ps s.length cs2] 37)) g = 37 := (own_shape HOA.out).choose_spec.choose_spec.2.2.2.1
        have hfar : ∀ {v : Value} {f : List Int}, Frm (w4.alloc (.cells #[.slice ps s.length cs2] 37)) v f → Frm w5 v f := fun {v f} hf => hf.far H5.out.2 (fun g _ h3 e => by rw [(hgk g e).2.2] at h3; cases h3)
        refine ⟨W ++ [(.slice ps s.length cs2, s)], by simp; omega, by simp; omega, by simp, ⟨p5, c5, by simp⟩, ?_, by simpa using H5.out.1, fun x hx => ?_⟩
        · rw [List.length_append, List.length_singleton]
          exact (H4.out.1.later (below_alloc _ _)).beside H5.out.2 (fun b _ e => ⟨(hgk b e).1, by rw [(hgk b e).2.2]; exact ints_ne, fun h3 => by rw [(hgk b e).2.2] at h3; cases h3⟩)
        · rcases List.mem_append.1 hx with hx | hx
          · have := H4.out.2.1.frm x hx
            exact ⟨hfar (this.1.later (below_alloc _ _)), this.2⟩
          · simp only [List.mem_singleton] at hx
            subst hx
            exact ⟨hfar (H4.out.2.2.later (below_alloc _ _)), HG.out⟩
      case measure => simp [intOf]; omega
    · by_cases e : W.length < m
      · have j1 : (W.length : Int) < (m : Int) := by omega
        have j2 : ¬ (W.length : Int) < 10 := by omega
        go_wp2
        go_ret2
        exact ⟨Q, pv, cv, W, rfl, HW.out.1.mono hW10, HW.out.2, hW10⟩
      · have j1 : ¬ (W.length : Int) < (m : Int) := by omega
        go_wp2
        go_ret2
        exact ⟨Q, pv, cv, W, rfl, HW.out.1.mono hW10, HW.out.2, hW10⟩
end Go.Proofs.Ytkffmglcllhbmaa
