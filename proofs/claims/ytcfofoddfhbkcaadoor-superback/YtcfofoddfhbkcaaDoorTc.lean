/-
  SuperDecodes walked.
-/
import Derived.Test.YtcfofoddfhbkcaaDoorTa
namespace Go.Proofs.YtcfofoddfhbkcaaDoor
open Go.RowKit

/-- a value that is a []byte of these numbers, as the calls want it -/
structure SB (w : World) (p : Option Addr) (n c : Nat) (xs : List Int) : Prop where
  inn : BIn w p n xs
  le : n ≤ c
  nil : p = none → c = 0
theorem SB.later {w w' : World} {p : Option Addr} {n c : Nat} {xs : List Int} (h : SB w p n c xs) (hb : Below w.heap.size w w') : SB w' p n c xs := ⟨h.inn.later hb, h.le, h.nil⟩
theorem yields_add_is {P : Program} {ops : Array Oper} {S : World → Prop} {o : Oper} {a : Act} (hw : Region.wanted o (yielded ops a.tmps) = true) (ty : TypeId) {x y : Operand} {t2 : TypeId} (ho : o.op = .binOp .add ty x y t2) {u1 u2 v : Value} (hx : a.eval x = u1) (hy : a.eval y = u2) (hrun : ∀ w, (binOp .add ty u1 u2).run P w = .ok v w) : YieldsIf P ops S o v a :=
  .inl ⟨hw, fun w _ => by
    unfold execOp
    have e : (eqGuard .add ty x y u1 u2).run P w = .ok () w := by unfold eqGuard; simp
    simp only [ho, hx, hy, Sem.run_bind, e, hrun w, Result.andThen_ok, Sem.run_pure]⟩
theorem add_marks (xs : List Int) (h : xs.length ≤ 140737488355328) (w : World) : (binOp .add 9 (.string (strOfNums xs)) (.string { data := #[90, 90] })).run Tryd.prog w = .ok (.string (strOfNums (xs ++ [90, 90]))) w := by
  have e : strOfNums xs ++ { data := #[90, 90] } = strOfNums (xs ++ [90, 90]) := by
    apply ByteArray.ext
    simp [ByteArray.data_append, strOfNums]
  rw [binOp_string_add, run_string_add_sum w _ _ (by rw [strOfNums_size]; show _ + 2 ≤ _; omega), e]
theorem marked_bytes {xs : List Int} (h : Bytes xs) : Bytes (xs ++ [90, 90]) := h.append (bytes_of (by decide))

set_option maxHeartbeats 8000000 in
set_option maxRecDepth 100000 in
theorem superDecodes_any (p : Option Addr) (n c : Nat) (xs : List Int) (w : World) (h : SB w p n c xs) (hbig : n ≤ 140737488351232) (ht : Tab w) :
    Calls Tryd.prog 7 #[.slice p n c] w fun e w' => e = .returned (.bool true) ∧ Below w.heap.size w w' := by
  obtain ⟨i0, hi, hz0, hz1, hz2⟩ := info_parts info5
  have HT : Hid (Tab w) := ht
  have HH : Hid (SB w p n c xs) := h
  have HLx : Hid (xs.length = n) := h.inn.len
  clear ht h
  go_enter Tryd.func7, Tryd.ntmps7
  go_wp2_with fail
  refine (awake_any w HT.out).mono ?_
  rintro e w1 ⟨rfl, b1⟩
  have B1 : Hid (Below w.heap.size w w1) := b1
  have H1 : Hid (SB w1 p n c xs) := HH.out.later b1
  clear b1 HH
  have HN : Hid (∀ ad, p = some ad → ∀ j u, (U8 xs)[j]? = some u → (w1.alloc (.cells #[] 5)).cell? (ad.add j) = some u) := by
    intro ad had
    have := (H1.out.later (below_alloc w1 (.cells #[] 5))).inn
    rw [had] at this
    exact this.news
  have HL : Hid ((U8 xs).length = n * 1) := by show _ = _; rw [List.length_map, H1.out.inn.len, Nat.mul_one]
  have HM : Hid ((w1.alloc (.cells #[] 5)).ownsRow w1.heap.size 5 1 (.slice (some ⟨w1.heap.size, 0, none⟩) 0 0) 0 []) := World.ownsRow_made w1 #[] 0 (Nat.le_refl _) (Nat.zero_le _) rfl
  have HNn : Hid (p = none → n = 0 ∧ c = 0) := fun h => by have := H1.out.nil h; have := H1.out.le; omega
  go_wp2_with (at_builtin; refine wpList_append_ownany _ rfl (.tmp 10) (.tmp 11) 27 rfl w1.heap.size 5 i0 (.int .u8 0) 1 1 Tryd.underlying27 hi hz0 hz1 hz2 rfl (by decide) _ 0 [] rfl HM.out p n c (U8 xs) rfl HNn.out HL.out HN.out (ones_u8 _) (by unfold maxLen; omega) (by omega) (by simp) ?_)
  intro v w2 hown1 hgrow1
  have HO : Hid (w2.ownsRow w1.heap.size 5 1 v n (U8 xs)) := by
    have : w2.ownsRow w1.heap.size 5 1 v n (U8 xs) := by simpa using hown1
    exact this
  have HB : Hid (Below w1.heap.size w1 w2) := ((Below.refl _ w1).alloc (Nat.le_refl _) _).grown hgrow1 (by simp) (by intro k hk; simp [Value.ownBlock] at hk; omega)
  clear hown1 hgrow1 HN HL HM HNn
  have HN : Hid (∀ j u, (U8 [90, 90])[j]? = some u → (w2.alloc (.cells #[.int .u8 90, .int .u8 90] 5)).cell? ((⟨w2.heap.size, 0, none⟩ : Addr).add j) = some u) := (lit_in w2 [90, 90] 2 rfl (bytes_of (by decide))).news
  go_wp2_with (at_builtin; refine wpList_append_lies _ rfl (.tmp 12) (.tmp 13) 27 rfl w1.heap.size 5 i0 (.int .u8 0) 1 1 Tryd.underlying27 hi hz0 hz1 hz2 rfl (by omega) v n (U8 xs) rfl (HO.out.alloc _) ⟨w2.heap.size, 0, none⟩ 2 2 (U8 [90, 90]) rfl rfl HN.out (ones_u8 _) (by omega) (by unfold maxLen; omega) (by omega) (by have := HB.out.size; simp; omega) _ rfl ?_)
  intro g cap w3 hown2 hgrow2 hat hlt
  have hcap : n + 2 ≤ cap := by
    rcases hown2.2 with ⟨h1, _⟩ | ⟨g', cap', cur, h1, _, _, h2, _⟩
    · cases h1
    · simp only [Value.slice.injEq] at h1
      omega
  have b3 : Below w1.heap.size w1 w3 := (HB.out.alloc HB.out.size _).grown hgrow2 (by have := HB.out.size; simp; omega) (fun k hk => (HO.out.lt k hk).1)
  have O3 : Hid (BIn w3 (some ⟨g, 0, none⟩) (n + 2) (xs ++ [90, 90])) := by
    have e : U8 (xs ++ [90, 90]) = U8 xs ++ U8 [90, 90] := by simp [U8]
    exact own_bin (by rw [e]; exact hown2) (marked_bytes H1.out.inn.byte)
  have H3 : Hid (SB w3 p n c xs) := H1.out.later b3
  have B3 : Hid (Below w.heap.size w w3) := below_then B1.out b3
  clear hown2 hgrow2 hat hlt HO HB HN b3 H1 B1
  go_wp2_with fail
  refine (refDecode_any p n c xs w3 H3.out.inn H3.out.le).mono ?_
  rintro e w4 ⟨rfl, b4⟩
  obtain ⟨r, E, hd⟩ : ∃ r E, decS xs = (r, E) := ⟨_, _, rfl⟩
  have HD : Hid (decS xs = (r, E)) := hd
  have HE : Hid (i64 E) := by have := dec_i64 xs; rw [hd] at this; exact this
  rw [hd]
  clear hd
  have A4 : Hid (_) := alloc26 w4
  have S4 : Hid (_) := store_new26 w4 r
  obtain ⟨w5, hw5⟩ : ∃ x, x = w4.alloc (.cells (scells r).toArray 26) := ⟨_, rfl⟩
  have b45 : Below w4.heap.size w4 w5 := by rw [hw5]; exact below_alloc w4 _
  have b35 := below_then b4 b45
  have R5 : Hid (SAt 26 w5 w4.heap.size r) := by rw [hw5]; exact LAt.new 26 w4 _
  have O5 : Hid (BIn w5 (some ⟨g, 0, none⟩) (n + 2) (xs ++ [90, 90])) := O3.out.later b35
  have H5 : Hid (SB w5 p n c xs) := H3.out.later b35
  have B5 : Hid (Below w.heap.size w w5) := below_then B3.out b35
  rw [← hw5] at S4
  clear b4 b45 b35 hw5 O3 H3 B3
  have hc1 : (n : Int) ≤ (cap : Int) := by omega
  have hc0 : ¬ cap = 0 := by omega
  go_wp2_with ((with_reducible refine at_ops ?_); (first | (refine wpList_alloc_is (by rfl) 26 rfl A4.out ?_) | (refine wpList_store_is (by rfl) 26 rfl rfl rfl S4.out ?_)); simp only [Act.put, List.setIfInBounds_toArray, List.set_cons_zero, List.set_cons_succ])
  clear A4 S4 hc1 hc0
  have T5 : Hid (BIn w5 (some ⟨g, 0, none⟩) n xs) := by
    have := O5.out.take n (by omega)
    rwa [List.take_left' HLx.out] at this
  refine (decode_any _ n cap xs w5 T5.out (by omega) (HT.out.later B5.out)).mono ?_
  rintro e w6 ⟨rfl, b6⟩
  rw [HD.out]
  have A6 : Hid (_) := alloc29 w6
  have S6 : Hid (_) := store_new29 w6 r
  obtain ⟨w7, hw7⟩ : ∃ x, x = w6.alloc (.cells (scells r).toArray 29) := ⟨_, rfl⟩
  have b67 : Below w6.heap.size w6 w7 := by rw [hw7]; exact below_alloc w6 _
  have b57 := below_then b6 b67
  have R7 : Hid (SAt 29 w7 w6.heap.size r) := by rw [hw7]; exact LAt.new 29 w6 _
  have Q7 : Hid (SAt 26 w7 w4.heap.size r) := LAt.later R5.out b57
  have O7 : Hid (BIn w7 (some ⟨g, 0, none⟩) (n + 2) (xs ++ [90, 90])) := O5.out.later b57
  have H7 : Hid (SB w7 p n c xs) := H5.out.later b57
  have B7 : Hid (Below w.heap.size w w7) := below_then B5.out b57
  rw [← hw7] at S6
  clear b6 b67 b57 hw7 O5 H5 B5 R5 T5
  go_wp2_with ((with_reducible refine at_ops ?_); (first | (refine wpList_alloc_is (by rfl) 29 rfl A6.out ?_) | (refine wpList_store_is (by rfl) 29 rfl rfl rfl S6.out ?_)); simp only [Act.put, List.setIfInBounds_toArray, List.set_cons_zero, List.set_cons_succ])
  clear A6 S6
  refine wp_region_noPanic ?_
  refine wp_region_held_drew (S := fun w' => Below w7.heap.size w7 w') (by kernel_rfl) (below_drawn 1) (fun hHeld => ?_)
  have D7 : Hid (Below w7.heap.size w7 w7.drew) := hHeld
  generalize w7.drew = wd at *
  have QE : Hid (∀ w, (binOp .eql 26 (.agg (scells r).toArray) (.agg (scells r).toArray)).run Tryd.prog w = .ok (.bool true) w) := fun w => by have := eql26 w r r; rwa [supB_same r] at this
  refine wpAnyH_take (i := 0) (v := ?va1) (by simp; rfl) (by kernel_rfl) (by kernel_rfl) (by kernel_rfl) (fun _ _ _ h => h) (Or.inl ⟨by rfl, ?ya1⟩) hHeld ?ra1
  case ya1 => intro w hSw; clear hSw; go_simp; with_reducible rfl
  simp only [Act.put, List.setIfInBounds_toArray, List.set_cons_zero, List.set_cons_succ]
  refine wpAnyH_take (i := 2) (v := ?va2) (by simp; rfl) (by kernel_rfl) (by kernel_rfl) (by kernel_rfl) (fun _ _ _ h => h) (Or.inl ⟨by rfl, ?ya2⟩) hHeld ?ra2
  case ya2 => intro w hSw; clear hSw; go_simp; with_reducible rfl
  simp only [Act.put, List.setIfInBounds_toArray, List.set_cons_zero, List.set_cons_succ]
  refine wpAnyH_ready (rs := [1]) (by kernel_rfl) (by simp) ?_
  refine AllReadyH.cons (by simp; rfl) (fun Kc hKc => ?_) AllReadyH.nil
  go_simp
  refine (num_any E HE.out wd).mono ?_
  rintro e wz ⟨rfl, rfl⟩
  refine hKc.out _ _ D7.out (fun hHeld => ?_)
  clear hKc Kc
  refine wpAnyH_take (i := 3) (v := ?va3) (by simp; rfl) (by kernel_rfl) (by kernel_rfl) (by kernel_rfl) (fun _ _ _ h => h) (Or.inl ⟨by rfl, ?ya3⟩) hHeld ?ra3
  case ya3 => intro w hSw; clear hSw; go_simp; with_reducible rfl
  simp only [Act.put, List.setIfInBounds_toArray, List.set_cons_zero, List.set_cons_succ]
  refine wpAnyH_take (i := 4) (v := ?va4) (by simp; rfl) (by kernel_rfl) (by kernel_rfl) (by kernel_rfl) (fun _ _ _ h => h) (Or.inl ⟨by rfl, ?ya4⟩) hHeld ?ra4
  case ya4 => intro w hSw; clear hSw; go_simp; with_reducible rfl
  simp only [Act.put, List.setIfInBounds_toArray, List.set_cons_zero, List.set_cons_succ]
  refine wpAnyH_take (i := 5) (v := _) (by simp; rfl) (by kernel_rfl) (by kernel_rfl) (by kernel_rfl) (fun _ _ _ h => h) (yieldsIf_load_mid (by rfl) 29 (.tmp 6) rfl w6.heap.size 0 rfl (scells r) _ (fun _ h => LAt.range (LAt.later R7.out h)) Tryd.underlying29 rfl (by rw [size29, scells_len])) hHeld ?_
  simp only [Act.put, List.setIfInBounds_toArray, List.set_cons_zero, List.set_cons_succ]
  refine wpAnyH_take (i := 7) (v := _) (by simp; rfl) (by kernel_rfl) (by kernel_rfl) (by kernel_rfl) (fun _ _ _ h => h) (yieldsIf_load_mid (by rfl) 26 (.tmp 4) rfl w4.heap.size 0 rfl (scells r) _ (fun _ h => LAt.range (LAt.later Q7.out h)) Tryd.underlying26 rfl (by rw [size26, scells_len])) hHeld ?_
  simp only [Act.put, List.setIfInBounds_toArray, List.set_cons_zero, List.set_cons_succ]
  refine wpAnyH_ready (rs := [6]) (by kernel_rfl) (by simp) ?_
  refine AllReadyH.cons (by simp; rfl) (fun Kc hKc => ?_) AllReadyH.nil
  go_simp
  refine (plain_any r wd).mono ?_
  rintro e wn5 ⟨rfl, bn⟩
  have Dn5 : Hid (Below w7.heap.size w7 wn5) := below_then D7.out bn
  clear bn
  refine hKc.out _ _ Dn5.out (fun hHeld => ?_)
  clear hKc Kc
  refine wpAnyH_take (i := 8) (v := _) (by simp; rfl) (by kernel_rfl) (by kernel_rfl) (by kernel_rfl) (fun _ _ _ h => h) (yields_eql_is (by rfl) 26 rfl rfl rfl eqg26 QE.out) hHeld ?_
  simp only [Act.put, List.setIfInBounds_toArray, List.set_cons_zero, List.set_cons_succ]
  refine wpAnyH_take (i := 9) (v := ?va6) (by simp; rfl) (by kernel_rfl) (by kernel_rfl) (by kernel_rfl) (fun _ _ _ h => h) (Or.inl ⟨by rfl, ?ya6⟩) hHeld ?ra6
  case ya6 => intro w hSw; clear hSw; go_simp; with_reducible rfl
  simp only [Act.put, List.setIfInBounds_toArray, List.set_cons_zero, List.set_cons_succ]
  refine wpAnyH_take (i := 10) (v := ?va7) (by simp; rfl) (by kernel_rfl) (by kernel_rfl) (by kernel_rfl) (fun _ _ _ h => h) (Or.inl ⟨by rfl, ?ya7⟩) hHeld ?ra7
  case ya7 => intro w hSw; clear hSw; go_simp; with_reducible rfl
  simp only [Act.put, List.setIfInBounds_toArray, List.set_cons_zero, List.set_cons_succ]
  refine wpAnyH_take (i := 11) (v := ?va8) (by simp; rfl) (by kernel_rfl) (by kernel_rfl) (by kernel_rfl) (fun _ _ _ h => h) (Or.inl ⟨by rfl, ?ya8⟩) hHeld ?ra8
  case ya8 => intro w hSw; clear hSw; go_simp; with_reducible rfl
  simp only [Act.put, List.setIfInBounds_toArray, List.set_cons_zero, List.set_cons_succ]
  refine wpAnyH_take (i := 12) (v := ?va9) (by simp; rfl) (by kernel_rfl) (by kernel_rfl) (by kernel_rfl) (fun _ _ _ h => h) (Or.inl ⟨by rfl, ?ya9⟩) hHeld ?ra9
  case ya9 => intro w hSw; have z1 := (O7.out.later hSw).str cap; clear hSw; go_simp; with_reducible rfl
  simp only [Act.put, List.setIfInBounds_toArray, List.set_cons_zero, List.set_cons_succ]
  refine wpAnyH_take (i := 13) (v := ?va10) (by simp; rfl) (by kernel_rfl) (by kernel_rfl) (by kernel_rfl) (fun _ _ _ h => h) (Or.inl ⟨by rfl, ?ya10⟩) hHeld ?ra10
  case ya10 => intro w hSw; clear hSw; go_simp; with_reducible rfl
  simp only [Act.put, List.setIfInBounds_toArray, List.set_cons_zero, List.set_cons_succ]
  refine wpAnyH_take (i := 14) (v := ?va11) (by simp; rfl) (by kernel_rfl) (by kernel_rfl) (by kernel_rfl) (fun _ _ _ h => h) (Or.inl ⟨by rfl, ?ya11⟩) hHeld ?ra11
  case ya11 => intro w hSw; have z1 := (H7.out.inn.later hSw).str c; clear hSw; go_simp; with_reducible rfl
  simp only [Act.put, List.setIfInBounds_toArray, List.set_cons_zero, List.set_cons_succ]
  refine wpAnyH_take (i := 15) (v := _) (by simp; rfl) (by kernel_rfl) (by kernel_rfl) (by kernel_rfl) (fun _ _ _ h => h) (yields_add_is (u1 := .string (strOfNums xs)) (u2 := .string { data := #[90, 90] }) (by rfl) 9 rfl rfl rfl (add_marks xs (by rw [HLx.out]; omega))) hHeld ?_
  simp only [Act.put, List.setIfInBounds_toArray, List.set_cons_zero, List.set_cons_succ]
  refine wpAnyH_take (i := 16) (v := ?va12) (by simp; rfl) (by kernel_rfl) (by kernel_rfl) (by kernel_rfl) (fun _ _ _ h => h) (Or.inl ⟨by rfl, ?ya12⟩) hHeld ?ra12
  case ya12 => intro w hSw; clear hSw; go_simp; with_reducible rfl
  simp only [Act.put, List.setIfInBounds_toArray, List.set_cons_zero, List.set_cons_succ]
  refine wpAnyH_take (i := 17) (v := ?va13) (by simp; rfl) (by kernel_rfl) (by kernel_rfl) (by kernel_rfl) (fun _ _ _ h => h) (Or.inl ⟨by rfl, ?ya13⟩) hHeld ?ra13
  case ya13 => intro w hSw; clear hSw; go_simp; with_reducible rfl
  simp only [Act.put, List.setIfInBounds_toArray, List.set_cons_zero, List.set_cons_succ]
  refine wpAnyH_take (i := 18) (v := ?va14) (by simp; rfl) (by kernel_rfl) (by kernel_rfl) (by kernel_rfl) (fun _ _ _ h => h) (Or.inl ⟨by rfl, ?ya14⟩) hHeld ?ra14
  case ya14 => intro w hSw; clear hSw; go_simp; with_reducible rfl
  simp only [Act.put, List.setIfInBounds_toArray, List.set_cons_zero, List.set_cons_succ]
  refine wpAnyH_done (by kernel_rfl) (NoPanic.normal ?_) _
  clear hHeld
  go_wp2_with fail
  go_ret
  exact ⟨by simp, below_then B7.out Dn5.out⟩
end Go.Proofs.YtcfofoddfhbkcaaDoor
