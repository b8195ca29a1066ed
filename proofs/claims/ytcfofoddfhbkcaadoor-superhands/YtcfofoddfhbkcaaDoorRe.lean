/-
  Layer 7, the document's own functions, third part: Laid.
-/
import Derived.Test.YtcfofoddfhbkcaaDoorRd
namespace Go.Proofs.YtcfofoddfhbkcaaDoor
open Go.RowKit

theorem own_shape {w : World} {base : Nat} {v : Value} {n : Nat} {xs : List Value} (h : w.ownsRow base 5 1 v n xs) (h0 : 0 < n) : ∃ g cap, v = .slice (some ⟨g, 0, none⟩) n cap ∧ n ≤ cap := by
  rcases h.2 with ⟨_, h2⟩ | ⟨g, cap, cur, h2, _, _, h3, _⟩
  · omega
  · exact ⟨g, cap, h2, h3⟩
theorem own_bin {w : World} {base g cap n : Nat} {xs : List Int} (h : w.ownsRow base 5 1 (.slice (some ⟨g, 0, none⟩) n cap) n (U8 xs)) (hb : Bytes xs) : BIn w (some ⟨g, 0, none⟩) n xs := by
  obtain ⟨p, c, e, hr, _⟩ := own_in h hb
  simp only [Value.slice.injEq] at e
  rw [e.1]
  exact hr
abbrev ten (a b c d e : Int) : List Int := [1, 0, a, b, c, d, e, 0, 0, 0]
set_option maxHeartbeats 4000000 in
set_option maxRecDepth 100000 in
theorem laid_any (s : Sup) (hw : s.Wf) (w : World) :
    Calls Tryd.prog 21 #[.agg (scells s).toArray] w fun e w' => ∃ g c, e = .returned (.slice (some ⟨g, 0, none⟩) 64 c) ∧ Made w w' (some ⟨g, 0, none⟩) 64 c (encS s) := by
  obtain ⟨i0, hi, hz0, hz1, hz2⟩ := info_parts info5
  have HW : Hid (s.Wf) := hw
  obtain ⟨w0, hw0⟩ : ∃ x, x = w.alloc (.cells (scells s).toArray 26) := ⟨_, rfl⟩
  have hs0 : w0.heap.size = w.heap.size + 1 := by rw [hw0]; simp
  have S0 : SAt 26 w0 w.heap.size s := by rw [hw0]; exact LAt.new 26 w _
  have B0 : Below w.heap.size w w0 := by rw [hw0]; exact below_alloc w _
  have L0 : Hid (_) := SAt.load23 S0
  have A1 : Hid (_) := alloc23 w0
  have T1 : Hid (_) := store_new23 w0 s
  obtain ⟨w1, hw1⟩ : ∃ x, x = w0.alloc (.cells (ccells s).toArray 23) := ⟨_, rfl⟩
  have hs1 : w1.heap.size = w.heap.size + 2 := by rw [hw1]; simp [hs0]
  have S1 : SAt 26 w1 w.heap.size s := by rw [hw1]; exact LAt.later S0 (below_alloc w0 _)
  have C1 : CAt w1 (w.heap.size + 1) s := by rw [hw1, ← hs0]; exact LAt.new 23 w0 _
  have B1 : Below w.heap.size w w1 := by rw [hw1]; exact below_then B0 (below_alloc w0 _)
  rw [hs0, ← hw1] at T1
  rw [hs0] at A1
  have cv := conv_const w1 NM 6 (w.heap.size + 2) hs1
  obtain ⟨w2, hw2⟩ : ∃ x, x = w1.alloc (.cells NM 5 (6, 7)) := ⟨_, rfl⟩
  have hs2 : w2.heap.size = w.heap.size + 3 := by rw [hw2]; simp [hs1]
  have b12 : Below w1.heap.size w1 w2 := by rw [hw2]; exact below_alloc w1 _
  have S2 : SAt 26 w2 w.heap.size s := LAt.later S1 b12
  have C2 : CAt w2 (w.heap.size + 1) s := LAt.later C1 b12
  have N2 : BIn w2 (some ⟨w.heap.size + 2, 0, none⟩) 6 nm := by rw [hw2, ← hs1]; exact lit_mark w1 nm 6 (6, 7) rfl nm_bytes
  have B2 : Below w.heap.size w w2 := below_then B1 b12
  have cv2 : (convert 27 27 (.slice (some ⟨w.heap.size + 2, 0, none⟩) 6 6)).run Tryd.prog (w1.alloc (.cells NM 5)) = .ok (.slice (some ⟨w.heap.size + 2, 0, none⟩) 6 6) w2 := by rw [hw2]; exact cv
  obtain ⟨x1, hx1⟩ : ∃ x, x = s.bl % 256 := ⟨_, rfl⟩
  obtain ⟨x2, hx2⟩ : ∃ x, x = s.lc % 256 := ⟨_, rfl⟩
  obtain ⟨x3, hx3⟩ : ∃ x, x = s.mr % 256 := ⟨_, rfl⟩
  obtain ⟨x4, hx4⟩ : ∃ x, x = s.hi % 256 := ⟨_, rfl⟩
  obtain ⟨x5, hx5⟩ : ∃ x, x = s.cl % 256 := ⟨_, rfl⟩
  have q1 : IntKind.u8.wrap s.bl = x1 := by rw [IntKind.wrap_u8, hx1]
  have q2 : IntKind.u8.wrap s.lc = x2 := by rw [IntKind.wrap_u8, hx2]
  have q3 : IntKind.u8.wrap s.mr = x3 := by rw [IntKind.wrap_u8, hx3]
  have q4 : IntKind.u8.wrap s.hi = x4 := by rw [IntKind.wrap_u8, hx4]
  have q5 : IntKind.u8.wrap s.cl = x5 := by rw [IntKind.wrap_u8, hx5]
  have HTB : Hid (Bytes (ten x1 x2 x3 x4 x5)) := by
    intro y hy
    simp only [ten, List.mem_cons, List.not_mem_nil, or_false] at hy
    omega
  have HBY : Hid (body s = ((nm ++ ten x1 x2 x3 x4 x5) ++ digits 8 s.tail ++ digits 8 s.life) ++ List.replicate 28 0) := by
    show _ = _
    unfold body
    rw [hx1, hx2, hx3, hx4, hx5]
    simp [zs]
  have N3 : Hid (BIn (w2.alloc (.cells (U8 (ten x1 x2 x3 x4 x5)).toArray 5)) (some ⟨w.heap.size + 3, 0, none⟩) 10 (ten x1 x2 x3 x4 x5)) := by rw [← hs2]; exact lit_in w2 _ 10 rfl HTB.out
  have N2' : Hid (BIn (w2.alloc (.cells (U8 (ten x1 x2 x3 x4 x5)).toArray 5)) (some ⟨w.heap.size + 2, 0, none⟩) 6 nm) := N2.later (below_alloc w2 _)
  have B3 : Hid (Below w.heap.size w (w2.alloc (.cells (U8 (ten x1 x2 x3 x4 x5)).toArray 5))) := below_then B2 (below_alloc w2 _)
  have S3 : Hid (SAt 26 (w2.alloc (.cells (U8 (ten x1 x2 x3 x4 x5)).toArray 5)) w.heap.size s) := LAt.later S2 (below_alloc w2 _)
  have c0 := CAt.c0 C2
  have c1 := CAt.c1 C2
  have c2 := CAt.c2 C2
  have c3 := CAt.c3 C2
  have c4 := CAt.c4 C2
  have HO6 : Hid (∀ j u, (U8 nm)[j]? = some u → (w2.alloc (.cells (U8 (ten x1 x2 x3 x4 x5)).toArray 5)).cell? ⟨w.heap.size + 2, 0 + j, none⟩ = some u) := fun j u hu => by
    have := N2'.out.news j u hu
    rw [Go.WideShapes.add_plain] at this
    exact this
  have e0 := hw0.symm
  clear hw0 hw1 hw2 hs0 S0 S1 C1 C2 B0 B1 B2 b12 S2 N2 cv hx1 hx2 hx3 hx4 hx5 hw
  go_enter Tryd.func21, Tryd.ntmps21
  go_wp2_with (first | ((with_reducible refine at_ops ?_); (first | (refine wpList_load_is (by rfl) 23 rfl rfl L0.out ?_) | (refine wpList_alloc_is (by rfl) 23 rfl A1.out ?_) | (refine wpList_store_is (by rfl) 23 rfl rfl rfl T1.out ?_)); simp only [Act.put, List.setIfInBounds_toArray, List.set_cons_zero, List.set_cons_succ]) | (at_builtin; refine wpList_append_arg _ rfl (.tmp 8) (.tmp 24) 27 rfl 5 i0 (.int .u8 0) 1 1 Tryd.underlying27 hi hz0 hz1 hz2 rfl (by decide) (w.heap.size + 2) 0 6 6 (U8 nm) rfl rfl HO6.out ⟨w.heap.size + 3, 0, none⟩ 10 10 (U8 (ten x1 x2 x3 x4 x5)) rfl rfl N3.out.news (ones_u8 _) (fun h => by omega) (by unfold maxLen; omega) (by omega) (fun h => by omega) ?_; clear cv2))
  intro v4 w4 hown4 hgrow4
  have HO4 : Hid (w4.ownsRow w.heap.size 5 1 v4 16 (U8 (nm ++ ten x1 x2 x3 x4 x5))) := by
    show w4.ownsRow _ _ _ _ _ _
    rw [show U8 (nm ++ ten x1 x2 x3 x4 x5) = U8 nm ++ U8 (ten x1 x2 x3 x4 x5) by simp only [U8, List.map_append]]
    exact own_mono hown4 (by omega)
  have hsz3 : w.heap.size ≤ (w2.alloc (.cells (U8 (ten x1 x2 x3 x4 x5)).toArray 5)).heap.size := B3.out.size
  have B4 : Hid (Below w.heap.size w w4) := B3.out.grown hgrow4 hsz3 (by intro k hk; cases hk)
  have S4 : Hid (SAt 26 w4 w.heap.size s) := (hgrow4.block _ (LAt.lt S3.out) (by simp)).trans S3.out
  have HTN : Hid (Bytes (nm ++ ten x1 x2 x3 x4 x5)) := nm_bytes.append HTB.out
  have HLN : Hid ((nm ++ ten x1 x2 x3 x4 x5).length = 16) := rfl
  obtain ⟨H, hH⟩ : ∃ H, H = nm ++ ten x1 x2 x3 x4 x5 := ⟨_, rfl⟩
  rw [← hH] at HO4 HTN HLN HBY
  clear hown4 hgrow4 hsz3 hH B3 S3 N3 N2' HO6 HTB c0 c1 c2 c3 c4 q1 q2 q3 q4 q5 hs1 hs2 L0 A1 T1 e0
  have c5 := SAt.c5 S4.out
  go_wp2_with fail
  refine (low_any s.tail 8 w4 HW.out.tail.1 HW.out.tail.2 (by omega)).mono ?_
  rintro e w5 ⟨v5, rfl, ho5, b5⟩
  obtain ⟨g5, k5, rfl, -⟩ := own_shape ho5 (by omega)
  have N5 : Hid (BIn w5 (some ⟨g5, 0, none⟩) 8 (digits 8 s.tail)) := own_bin ho5 (digits_bytes _ _)
  have HO5 : Hid (w5.ownsRow w.heap.size 5 1 v4 16 (U8 H)) := own_later HO4.out b5
  have S5 : Hid (SAt 26 w5 w.heap.size s) := LAt.later S4.out b5
  have B5 : Hid (Below w.heap.size w w5) := below_then B4.out b5
  clear ho5 b5 c5 HO4 S4 B4
  go_wp2_with (at_builtin; refine wpList_append_own _ rfl (.tmp 26) (.tmp 29) 27 rfl w.heap.size 5 i0 (.int .u8 0) 1 1 Tryd.underlying27 hi hz0 hz1 hz2 rfl (by decide) v4 16 (U8 H) rfl HO5.out ⟨g5, 0, none⟩ 8 k5 (U8 (digits 8 s.tail)) rfl (by rw [U8_length, digits_length]) N5.out.news (ones_u8 _) (by unfold maxLen; omega) (by omega) B5.out.size ?_)
  intro v6 w6 hown6 hgrow6 _
  have HO6 : Hid (w6.ownsRow w.heap.size 5 1 v6 24 (U8 (H ++ digits 8 s.tail))) := by
    show w6.ownsRow _ _ _ _ _ _
    rw [show U8 (H ++ digits 8 s.tail) = U8 H ++ U8 (digits 8 s.tail) by simp only [U8, List.map_append]]
    exact hown6
  have hbl6 : ∀ k, v4.ownBlock = some k → w.heap.size < k := fun k hk => by
    rcases Nat.lt_or_ge w.heap.size k with h | h
    · exact h
    · have h2 := (HO5.out.lt k hk).1
      obtain rfl : k = w.heap.size := by omega
      rcases HO5.out.2 with ⟨h3, _⟩ | ⟨g', _, cs, h3, _, hg, _⟩
      · rw [h3] at hk; cases hk
      · rw [h3] at hk
        simp only [Value.ownBlock, Option.some.injEq] at hk
        subst hk
        have := S5.out
        unfold LAt at this
        rw [this] at hg
        simp at hg
  have B6 : Hid (Below w.heap.size w w6) := B5.out.grown hgrow6 B5.out.size (fun k hk => by have := hbl6 k hk; omega)
  have S6 : Hid (SAt 26 w6 w.heap.size s) := (hgrow6.block _ (LAt.lt S5.out) (fun e => by have := hbl6 _ e.symm; omega)).trans S5.out
  clear hown6 hgrow6 hbl6 HO5 S5 B5 N5
  have c6 := SAt.c6 S6.out
  go_wp2_with fail
  refine (low_any s.life 8 w6 HW.out.life.1 HW.out.life.2 (by omega)).mono ?_
  rintro e w7 ⟨v7, rfl, ho7, b7⟩
  obtain ⟨g7, k7, rfl, -⟩ := own_shape ho7 (by omega)
  have N7 : Hid (BIn w7 (some ⟨g7, 0, none⟩) 8 (digits 8 s.life)) := own_bin ho7 (digits_bytes _ _)
  have HO7 : Hid (w7.ownsRow w.heap.size 5 1 v6 24 (U8 (H ++ digits 8 s.tail))) := own_later HO6.out b7
  have B7 : Hid (Below w.heap.size w w7) := below_then B6.out b7
  clear ho7 b7 c6 HO6 S6 B6
  go_wp2_with (at_builtin; refine wpList_append_own _ rfl (.tmp 31) (.tmp 34) 27 rfl w.heap.size 5 i0 (.int .u8 0) 1 1 Tryd.underlying27 hi hz0 hz1 hz2 rfl (by decide) v6 24 (U8 (H ++ digits 8 s.tail)) rfl HO7.out ⟨g7, 0, none⟩ 8 k7 (U8 (digits 8 s.life)) rfl (by rw [U8_length, digits_length]) N7.out.news (ones_u8 _) (by unfold maxLen; omega) (by omega) B7.out.size ?_)
  intro v8 w8 hown8 hgrow8 _
  have B8 : Hid (Below w.heap.size w w8) := B7.out.grown hgrow8 B7.out.size (fun k hk => (HO7.out.lt k hk).1)
  have HO8 : Hid (w8.ownsRow w.heap.size 5 1 v8 32 (U8 (H ++ digits 8 s.tail ++ digits 8 s.life))) := by
    show w8.ownsRow _ _ _ _ _ _
    simp only [U8, List.map_append, List.append_assoc]
    exact hown8
  clear hown8 hgrow8 HO7 B7 N7
  obtain ⟨g8, k8, rfl, -⟩ := own_shape HO8.out (by omega)
  go_wp2_with (at_builtin; refine wpList_append_zeros_own _ rfl (.tmp 36) _ 27 3 rfl w.heap.size 5 i0 (.int .u8 0) 1 .i64 .i64 Tryd.underlying27 Tryd.underlying3 hi hz0 hz1 hz2 rfl rfl g8 32 k8 (U8 (H ++ digits 8 s.tail ++ digits 8 s.life)) rfl HO8.out 28 rfl (by omega) (by unfold maxLen; omega) (by omega) B8.out.size ?_)
  intro v9 w9 hown9 hgrow9
  have B9 : Hid (Below w.heap.size w w9) := B8.out.grown hgrow9 B8.out.size (fun k hk => (HO8.out.lt k hk).1)
  have HO9 : Hid (w9.ownsRow w.heap.size 5 1 v9 60 (U8 (body s))) := by
    show w9.ownsRow _ _ _ _ _ _
    rw [HBY.out]
    simp only [U8, List.map_append, List.append_assoc, List.map_replicate]
    exact hown9
  clear hown9 hgrow9 HO8 B8 HBY HTN HLN
  obtain ⟨g9, k9, rfl, -⟩ := own_shape HO9.out (by omega)
  have N9 : Hid (BIn w9 (some ⟨g9, 0, none⟩) 60 (body s)) := own_bin HO9.out (body_bytes s)
  go_wp2_with fail
  refine (refSum_pos g9 0 60 k9 (body s) w9 N9.out (by omega) (by omega)).mono ?_
  rintro e w' ⟨rfl, rfl⟩
  have hcl := crc_lt (body s) (body_bytes s)
  have HE : Hid (encS s = body s ++ digits 4 ((crc (body s) : Nat) : Int)) := rfl
  generalize crc (body s) = C at *
  go_wp2_with fail
  refine (low_any (C : Int) 4 w9 (by omega) (by omega) (by omega)).mono ?_
  rintro e w10 ⟨v10, rfl, ho10, b10⟩
  obtain ⟨g10, k10, rfl, -⟩ := own_shape ho10 (by omega)
  have N10 : Hid (BIn w10 (some ⟨g10, 0, none⟩) 4 (digits 4 (C : Int))) := own_bin ho10 (digits_bytes _ _)
  have HO10 : Hid (w10.ownsRow w.heap.size 5 1 (.slice (some ⟨g9, 0, none⟩) 60 k9) 60 (U8 (body s))) := own_later HO9.out b10
  have B10 : Hid (Below w.heap.size w w10) := below_then B9.out b10
  clear ho10 b10 HO9 B9 N9
  go_wp2_with (at_builtin; refine wpList_append_own _ rfl (.tmp 38) (.tmp 42) 27 rfl w.heap.size 5 i0 (.int .u8 0) 1 1 Tryd.underlying27 hi hz0 hz1 hz2 rfl (by decide) _ 60 (U8 (body s)) rfl HO10.out ⟨g10, 0, none⟩ 4 k10 (U8 (digits 4 (C : Int))) rfl (by rw [U8_length, digits_length]) N10.out.news (ones_u8 _) (by unfold maxLen; omega) (by omega) B10.out.size ?_)
  intro v11 w11 hown11 hgrow11 _
  have B11 : Hid (Below w.heap.size w w11) := B10.out.grown hgrow11 B10.out.size (fun k hk => (HO10.out.lt k hk).1)
  have HO11 : Hid (w11.ownsRow w.heap.size 5 1 v11 64 (U8 (encS s))) := by
    show w11.ownsRow _ _ _ _ _ _
    rw [HE.out, show U8 (body s ++ digits 4 (C : Int)) = U8 (body s) ++ U8 (digits 4 (C : Int)) by simp only [U8, List.map_append]]
    exact hown11
  clear hown11 hgrow11 HO10 B10 N10
  obtain ⟨g11, k11, rfl, hk11⟩ := own_shape HO11.out (by omega)
  go_wp2_with fail
  go_ret
  exact ⟨g11, k11, rfl, HO11.out, own_bin HO11.out (encS_bytes s), hk11, (fun e => by cases e), B11.out⟩
end Go.Proofs.YtcfofoddfhbkcaaDoor
