/-
  Layer 13: line: a list more.
-/
import Derived.Test.YtnbegddpgmejnaaGreatWd
namespace Go.Proofs.YtnbegddpgmejnaaGreat
open Go.RowKit

variable {w0 w w' : World} {P : Nat} {q : Nat → Nat} {S D : Nat → Ad} {X : Nat → Th} {N a b j k k2 : Nat}

theorem same_line {pg p : Option Addr} {cg c : Nat} {f : List Int} (hg : w.ownsRow 0 44 1 (.slice pg f.length cg) f.length (f.map (Value.int .u64))) (hp : w.ownsRow 0 44 1 (.slice p f.length c) f.length (f.map (Value.int .u64))) (hf : f.length ≤ 1000) : Calls Tryz.prog 44 #[.slice pg f.length cg, .slice p f.length c] w fun e w' => e = .returned (.bool true) ∧ ∃ m, w' = w.drewN m := by
  obtain ⟨pa, ca, e1, h1, -⟩ := (Row.own hg).1.form
  obtain ⟨pb, cb, e2, h2, -⟩ := (Row.own hp).1.form
  simp only [Value.slice.injEq] at e1 e2
  obtain ⟨rfl, -, rfl⟩ := e1
  obtain ⟨rfl, -, rfl⟩ := e2
  have := sameT_is pg p f.length cg f.length c f f w h1 h2 (by omega)
  rw [decide_eq_true (rfl : f = f)] at this
  exact this
/-- a list more of our own in the row of lists -/
theorem grown_line {T2 : Nat → Th} {G : Nat → Prop} {we wc wd : World} {v5 : Value} {us5 : List Value} {fs : List (List Int)} {f : List Int} {u v5' : Value} (hp : PS w0 we P T2 G) (e5 : T2 7 = .ul v5 us5 fs) (hu : wc.ownsRow 0 44 1 u f.length (f.map (Value.int .u64))) (hb : Below we.heap.size we wc) (hn : ∀ g, u.ownBlock = some g → we.heap.size ≤ g)
    (ho : wd.ownsRow 0 62 1 v5' (us5.length + 1) (us5 ++ [u])) (hk : Kept (fun b => v5.ownBlock = some b) wc wd) (hv : v5'.ownBlock = v5.ownBlock ∨ v5'.ownBlock = some wc.heap.size) : Mid w0 wd P (put T2 14 (.lu u f)) G 7 (.ul v5' (us5 ++ [u]) (fs ++ [f])) 14 := by
  have hL : UL we v5 us5 fs := by have := hp.fam.at' 7 (by omega); rw [e5] at this; exact this
  have hLc : UL wc v5 us5 fs := hL.kept (Kept.of_below (fun _ => False) hb) (fun _ _ e => e)
  have hps : PS w0 wc P (put T2 14 (.lu u f)) G := (hp.later hb).fresh hp (by omega) (u := .lu u f) hu hn
  have e5' : put T2 14 (.lu u f) 7 = .ul v5 us5 fs := by rw [put_other _ _ (by omega)]; exact e5
  refine hps.grow (i := 7) (k := 14) (by omega) (by omega) (t := .ul v5' (us5 ++ [u]) (fs ++ [f])) (S' := fun b => v5.ownBlock = some b) ?_ hk (fun b hb => by rw [e5']; exact .inl hb) (fun b hb => ?_)
  · refine Lists.app hLc hk (fun b hb hs => ?_) ho hu (fun z hz g hg hg' => ?_)
    · rcases hb with ⟨z, hz, hz2⟩ | hz2
      · obtain ⟨y, _, oy⟩ := hLc.of_mem hz
        exact own_ne oy hLc.row (by decide) hz2 hs
      · exact own_ne hu hLc.row (by decide) hz2 hs
    · have h1 := hn g hg'
      have h2 := hL.lt (.inr ⟨z, hz, hg⟩)
      omega
  · rw [e5']
    rcases hb with hb | ⟨z, hz, hz2⟩
    · rcases hv with e | e
      · exact .inl (.inl (e ▸ hb))
      · rw [e] at hb; exact .inr (.inl (by simp at hb; omega))
    · rcases List.mem_append.1 hz with hz | hz
      · exact .inl (.inr ⟨z, hz, hz2⟩)
      · rw [List.mem_singleton.1 hz] at hz2
        exact .inr (.inr ⟨by omega, by rw [put_same]; exact hz2⟩)
/-- the list that was handed out -/
theorem took_line {T : Nat → Th} {G : Nat → Prop} {wd : World} {v4 : Value} {us4 : List Value} {fs : List (List Int)} {f : List Int} {u v4' : Value} {k : Nat} (hp : PS w0 w P T G) (hk8 : 8 ≤ k) (hk15 : k < 15) (e4 : T 6 = .ul v4 us4 fs) (ek : T k = .lu u f) (hb : Below w.heap.size w w') (ho : wd.ownsRow 0 62 1 v4' (us4.length + 1) (us4 ++ [u])) (hk : Kept (fun b => v4.ownBlock = some b) w' wd) (hv : v4'.ownBlock = v4.ownBlock ∨ v4'.ownBlock = some w'.heap.size) : Mid w0 wd P T G 6 (.ul v4' (us4 ++ [u]) (fs ++ [f])) k := by
  have hp' := hp.later hb
  have hL : UL w' v4 us4 fs := by have := hp'.fam.at' 6 (by omega); rw [e4] at this; exact this
  have hu : w'.ownsRow 0 44 1 u f.length (f.map (Value.int .u64)) := by have := hp'.fam.at' k (by omega); rw [ek] at this; exact this
  refine hp'.grow (i := 6) (k := k) (by omega) (by omega) (t := .ul v4' (us4 ++ [u]) (fs ++ [f])) (S' := fun b => v4.ownBlock = some b) ?_ hk (fun b hb => by rw [e4]; exact .inl hb) (fun b hb => ?_)
  · refine Lists.app hL hk (fun b hb hs => ?_) ho hu (fun z hz g hg hg' => ?_)
    · rcases hb with ⟨z, hz, hz2⟩ | hz2
      · obtain ⟨y, _, oy⟩ := hL.of_mem hz
        exact own_ne oy hL.row (by decide) hz2 hs
      · exact own_ne hu hL.row (by decide) hz2 hs
    · exact hp'.fam.apart 6 k (by omega) (by omega) (by omega) g (by rw [e4]; exact .inr ⟨z, hz, hg⟩) (by rw [ek]; exact hg')
  · rw [e4]
    rcases hb with hb | ⟨z, hz, hz2⟩
    · rcases hv with e | e
      · exact .inl (.inl (e ▸ hb))
      · rw [e] at hb; exact .inr (.inl (by simp at hb; omega))
    · rcases List.mem_append.1 hz with hz | hz
      · exact .inl (.inr ⟨z, hz, hz2⟩)
      · rw [List.mem_singleton.1 hz] at hz2
        exact .inr (.inr ⟨hk15, by rw [ek]; exact hz2⟩)
theorem shape_line {T T2 : Nat → Th} {k : Nat} {v4' v5' v4 v5 : Value} {us4 us5 : List Value} {u5 : Value} {fs : List (List Int)} {f : List Int} {u : Value} {t14 : Th} (hs : Sh T q S D X N a b) (_e4 : T 6 = .ul v4 us4 fs) (hT : T2 = put (put T 6 (.ul v4' (us4 ++ [u]) (fs ++ [f]))) (8 + k) .no ∧ k < 6) (_e5 : T2 7 = .ul v5 us5 fs) (hl : fs.length ≤ b ∧ ∀ z ∈ fs, z.length ≤ 1000) (hf : f.length ≤ 1000) :
    Sh (put (put (put T2 14 t14) 7 (.ul v5' (us5 ++ [u5]) (fs ++ [f]))) 14 .no) q S D (put X k .no) N a (b + 1) := by
  obtain ⟨rfl, hk⟩ := hT
  have hx : ∀ i, i < 8 → i ≠ 6 → i ≠ 7 → (put (put (put (put (put T 6 (.ul v4' (us4 ++ [u]) (fs ++ [f]))) (8 + k) .no) 14 t14) 7 (.ul v5' (us5 ++ [u5]) (fs ++ [f]))) 14 .no) i = T i := fun i hi h4 h5 => by
    rw [put_other _ _ (by omega), put_other _ _ h5, put_other _ _ (by omega), put_other _ _ (by omega), put_other _ _ h4]
  have h4 : (put (put (put (put (put T 6 (.ul v4' (us4 ++ [u]) (fs ++ [f]))) (8 + k) .no) 14 t14) 7 (.ul v5' (us5 ++ [u5]) (fs ++ [f]))) 14 .no) 6 = .ul v4' (us4 ++ [u]) (fs ++ [f]) := by
    rw [put_other _ _ (by omega), put_other _ _ (by omega), put_other _ _ (by omega), put_other _ _ (by omega), put_same]
  have h5 : (put (put (put (put (put T 6 (.ul v4' (us4 ++ [u]) (fs ++ [f]))) (8 + k) .no) 14 t14) 7 (.ul v5' (us5 ++ [u5]) (fs ++ [f]))) 14 .no) 7 = .ul v5' (us5 ++ [u5]) (fs ++ [f]) := by
    rw [put_other _ _ (by omega), put_same]
  have hnew : (fs ++ [f]).length ≤ b + 1 ∧ ∀ z ∈ fs ++ [f], z.length ≤ 1000 := ⟨by rw [List.length_append, List.length_singleton]; omega, fun z hz => by
    rcases List.mem_append.1 hz with hz | hz
    · exact hl.2 z hz
    · rw [List.mem_singleton.1 hz]; exact hf⟩
  refine ⟨fun j hj => ?_, fun j hj => ?_, ?_, ?_, fun i hi => ?_⟩
  · rw [hx j (by omega) (by omega) (by omega)]; exact hs.led j hj
  · rw [hx (j + 2) (by omega) (by omega) (by omega)]; exact hs.ref j hj
  · rw [hx 4 (by omega) (by omega) (by omega), hx 5 (by omega) (by omega) (by omega)]; exact hs.fo
  · exact ⟨v4', _, v5', _, fs ++ [f], h4, h5, hnew.1, hnew.2⟩
  · rw [put_other _ _ (by omega), put_other _ _ (by omega), put_other _ _ (by omega)]
    by_cases e : i = k
    · subst e; rw [put_same, put_same]
    · rw [put_other _ _ (by omega), put_other _ _ (by omega), put_other _ _ e]; exact hs.x i hi
set_option maxHeartbeats 4000000 in
set_option maxRecDepth 100000 in
theorem line_at {pg p : Option Addr} {cg c : Nat} {f : List Int} (h : St w0 w P q S D X N a b) (hk : k < 6) (hX : X k = .lu (.slice pg f.length cg) f) (hk2 : k2 < 6) (hX2 : X k2 = .lu (.slice p f.length c) f) (hf : f.length ≤ 1000) (ha : b ≤ 5000) :
    Calls Tryz.prog 41 #[qp P, .slice pg f.length cg, .slice p f.length c] w fun e w' => e = .returned (.bool true) ∧ St w0 w' P q S D (put X k .no) N a (b + 1) := by
  obtain ⟨T, G, hp, hs⟩ := h
  obtain ⟨v4, us4, v5, us5, fs, e4, e5, hl1, hl2⟩ := hs.li
  have ek : T (8 + k) = .lu (.slice pg f.length cg) f := by rw [hs.x k hk]; exact hX
  have ek2 : T (8 + k2) = .lu (.slice p f.length c) f := by rw [hs.x k2 hk2]; exact hX2
  have HP : Hid (PS w0 w P T G) := hp
  have HS : Hid (Sh T q S D X N a b) := hs
  have HLen0 : Hid (us4.length ≤ 5000 ∧ us5.length ≤ 5000) := by
    have h4 := hp.fam.at' 6 (by omega)
    have h5 := hp.fam.at' 7 (by omega)
    rw [e4] at h4
    rw [e5] at h5
    have l4 := Lists.len h4
    have l5 := Lists.len h5
    exact ⟨by omega, by omega⟩
  have T24 : Hid (T 6 = .ul v4 us4 fs) := e4
  have T250 : Hid (T 7 = .ul v5 us5 fs) := e5
  have EK : Hid (T (8 + k) = .lu (.slice pg f.length cg) f) := ek
  have d4 : w.cell? ⟨P, 6, none⟩ = some v4 := by rw [hp.cl (j := 6) (by omega), e4]; rfl
  have HG0 : Hid (w.ownsRow 0 44 1 (.slice pg f.length cg) f.length (f.map (Value.int .u64)) ∧ w.ownsRow 0 44 1 (.slice p f.length c) f.length (f.map (Value.int .u64))) := by
    have h1 := hp.fam.at' (8 + k) (by omega)
    have h2 := hp.fam.at' (8 + k2) (by omega)
    rw [ek] at h1
    rw [ek2] at h2
    exact ⟨h1, h2⟩
  have HLF : Hid (fs.length ≤ b ∧ ∀ z ∈ fs, z.length ≤ 1000) := ⟨hl1, hl2⟩
  have L4 : Hid (UL w v4 us4 fs) := by have h1 := hp.fam.at' 6 (by omega); rw [e4] at h1; exact h1
  obtain ⟨p4, c4, ev4⟩ := own_shape L4.out.row
  subst ev4
  clear hp hs e4 e5 hl1 hl2 ek ek2 hX hX2
  have b1 : Hid (Below w.heap.size w (w.alloc (.cells #[.slice pg f.length cg] 62))) := below_alloc w _
  have R4 : Hid ((w.alloc (.cells #[.slice pg f.length cg] 62)).ownsRow 0 62 1 (.slice p4 us4.length c4) us4.length us4) := own_later L4.out.row b1.out
  go_enter Tryz.func41, Tryz.ntmps41
  go_upto_region 2 with (at_builtin; refine wpList_own_any (v := .slice p4 us4.length c4) (u := .slice (some ⟨w.heap.size, 0, none⟩) 1 1) (n := us4.length) (m := 1) (base := 0) (base' := 0) rfl (.tmp 11) (.tmp 13) elUU rfl rfl R4.out rfl (own_one (base := 0) (cs := [.slice pg f.length cg]) w rfl (Nat.zero_le _)) (by intro z hz; rw [List.mem_singleton.1 hz]; rfl) (by have := HLen0.out.1; omega) (Nat.zero_le _) ?_; intro v4' wd ho hkk hv; obtain ⟨p6, c6, e6⟩ := own_shape ho; subst e6; have MD : Hid (Mid w0 wd P T G 6 (.ul (.slice p6 (us4.length + 1) c6) (us4 ++ [.slice pg f.length cg]) (fs ++ [f])) (8 + k)) := took_line HP.out (by omega) (by omega) T24.out EK.out b1.out ho hkk hv; have HW1 : Hid (wd.ownsRow 0 44 1 (.slice p f.length c) f.length (f.map (Value.int .u64)) ∧ wd.ownsRow 0 44 1 (.slice pg f.length cg) f.length (f.map (Value.int .u64))) := ⟨own_far (own_later HG0.out.2 b1.out) hkk (fun g hg e => own_ne (own_later HG0.out.2 b1.out) R4.out (by decide) hg e), own_far (own_later HG0.out.1 b1.out) hkk (fun g hg e => own_ne (own_later HG0.out.1 b1.out) R4.out (by decide) hg e)⟩; clear ho hkk hv; have g4 : wd.cell? ⟨P, 6, none⟩ = some (.slice p4 us4.length c4) := (by rw [cell_of_row _ P 6 _ 41 (0, 0) MD.out.pr]; show some (T 6).val = _; rw [T24.out]; rfl); have f4 : wd.frozen? ⟨P, 6, none⟩ = false := (by simp [World.frozen?, MD.out.pr]))
  have PS2 : Hid (PS w0 (wd.setCell ⟨P, 6, none⟩ (.slice p6 (us4.length + 1) c6)) P (put (put T 6 (.ul (.slice p6 (us4.length + 1) c6) (us4 ++ [.slice pg f.length cg]) (fs ++ [f]))) (8 + k) .no) G) := MD.out.store (by omega) (by omega)
  have HW2 : Hid ((wd.setCell ⟨P, 6, none⟩ (.slice p6 (us4.length + 1) c6)).ownsRow 0 44 1 (.slice p f.length c) f.length (f.map (Value.int .u64)) ∧ (wd.setCell ⟨P, 6, none⟩ (.slice p6 (us4.length + 1) c6)).ownsRow 0 44 1 (.slice pg f.length cg) f.length (f.map (Value.int .u64))) := ⟨own_far HW1.out.1 (Kept.setCell P 6 _) (fun g hg e => by have e' : g = P := e; subst e'; exact own_not HW1.out.1 MD.out.pr (by decide) hg), own_far HW1.out.2 (Kept.setCell P 6 _) (fun g hg e => by have e' : g = P := e; subst e'; exact own_not HW1.out.2 MD.out.pr (by decide) hg)⟩
  clear d4 g4 f4 MD HW1 HG0 L4 R4 b1 EK HP
  generalize wd.setCell ⟨P, 6, none⟩ (.slice p6 (us4.length + 1) c6) = wx at *
  obtain ⟨T2, hT2⟩ : ∃ T2, T2 = put (put T 6 (.ul (.slice p6 (us4.length + 1) c6) (us4 ++ [.slice pg f.length cg]) (fs ++ [f]))) (8 + k) .no := ⟨_, rfl⟩
  have HT1 : Hid (T2 = put (put T 6 (.ul (.slice p6 (us4.length + 1) c6) (us4 ++ [.slice pg f.length cg]) (fs ++ [f]))) (8 + k) .no ∧ k < 6) := ⟨hT2, hk⟩
  have T25 : Hid (T2 7 = .ul v5 us5 fs) := by show _ = _; rw [hT2, put_other _ _ (by omega), put_other _ _ (by omega)]; exact T250.out
  rw [← hT2] at PS2
  clear hT2 T250
  refine wp_region_noPanic ?_
  refine wp_region_last 12 (Pb P (pcs T2)) (by kernel_rfl) ?_
  have hHeld : Pb P (pcs T2) wx.drew := PS2.out.pr
  have PSe : Hid (PS w0 wx.drew P T2 G) := PS2.out.later (below_drew wx)
  have HW : Hid (wx.drew.ownsRow 0 44 1 (.slice p f.length c) f.length (f.map (Value.int .u64))) := HW2.out.1
  have HGv : Hid (wx.drew.ownsRow 0 44 1 (.slice pg f.length cg) f.length (f.map (Value.int .u64))) := HW2.out.2
  clear PS2 HW2
  generalize wx.drew = we at *
  have L5 : Hid (UL we v5 us5 fs) := by have h1 := PSe.out.fam.at' 7 (by omega); rw [T25.out] at h1; exact h1
  have HL : Hid (∀ w', Pb P (pcs T2) w' → w'.cell? ⟨P, 7, none⟩ = some v5) := fun w' hb => by rw [cell_of_row _ P 7 _ 41 (0, 0) hb]; show some (T2 7).val = _; rw [T25.out]; rfl
  have HLen : Hid (us5.length ≤ 5000 ∧ fs.length ≤ b ∧ ∀ z ∈ fs, z.length ≤ 1000) := ⟨HLen0.out.2, HLF.out⟩
  refine wpAnyL_take (i := 0) (v := ?va7) (by simp; rfl) (by kernel_rfl) (by kernel_rfl) (by kernel_rfl) (by kernel_rfl) (fun _ _ _ h => h) (Or.inl ⟨by rfl, ?ya7⟩) hHeld ?ra7
  case ya7 => intro w hSw; clear hSw; go_simp; with_reducible rfl
  simp only [Act.put, List.setIfInBounds_toArray, List.set_cons_zero, List.set_cons_succ]
  refine wpAnyL_take (i := 1) (v := ?va8) (by simp; rfl) (by kernel_rfl) (by kernel_rfl) (by kernel_rfl) (by kernel_rfl) (fun _ _ _ h => h) (Or.inl ⟨by rfl, ?ya8⟩) hHeld ?ra8
  case ya8 => intro w hSw; clear hSw; go_simp; with_reducible rfl
  simp only [Act.put, List.setIfInBounds_toArray, List.set_cons_zero, List.set_cons_succ]
  refine wpAnyL_take (i := 2) (v := ?va9) (by simp; rfl) (by kernel_rfl) (by kernel_rfl) (by kernel_rfl) (by kernel_rfl) (fun _ _ _ h => h) (Or.inl ⟨by rfl, ?ya9⟩) hHeld ?ra9
  case ya9 => intro w hSw; clear hSw; go_simp; with_reducible rfl
  simp only [Act.put, List.setIfInBounds_toArray, List.set_cons_zero, List.set_cons_succ]
  refine wpAnyL_take (i := 3) (v := ?va10) (by simp; rfl) (by kernel_rfl) (by kernel_rfl) (by kernel_rfl) (by kernel_rfl) (fun _ _ _ h => h) (Or.inl ⟨by rfl, ?ya10⟩) hHeld ?ra10
  case ya10 => intro w hSw; clear hSw; go_simp; with_reducible rfl
  simp only [Act.put, List.setIfInBounds_toArray, List.set_cons_zero, List.set_cons_succ]
  refine wpAnyL_take (i := 4) (v := ?va11) (by simp; rfl) (by kernel_rfl) (by kernel_rfl) (by kernel_rfl) (by kernel_rfl) (fun _ _ _ h => h) (Or.inl ⟨by rfl, ?ya11⟩) hHeld ?ra11
  case ya11 => intro w hSw; have z := HL.out w hSw; clear hSw; go_simp; with_reducible rfl
  simp only [Act.put, List.setIfInBounds_toArray, List.set_cons_zero, List.set_cons_succ]
  refine wpAnyL_take (i := 6) (v := ?va12) (by simp; rfl) (by kernel_rfl) (by kernel_rfl) (by kernel_rfl) (by kernel_rfl) (fun _ _ _ h => h) (Or.inl ⟨by rfl, ?ya12⟩) hHeld ?ra12
  case ya12 => intro w hSw; clear hSw; go_simp; with_reducible rfl
  simp only [Act.put, List.setIfInBounds_toArray, List.set_cons_zero, List.set_cons_succ]
  refine wpAnyL_ready (rs := [5]) (by kernel_rfl) (by simp) ?_
  refine AllReadyL.cons (by simp; rfl) (fun Kc hKc => ?_) AllReadyL.nil
  go_simp
  have F1 : Hid (FR we (we.alloc (.cells #[] 44)) 0 44 1 (.slice (some ⟨we.heap.size, 0, none⟩) 0 0) 0 []) := FR.empty 44 1 (Below.refl _ _) (Nat.zero_le _)
  have F1' : Hid (Pb P (pcs T2) (we.alloc (.cells #[] 44))) := (F1.out.below.block P PSe.out.plt).trans PSe.out.pr
  refine hKc.out _ _ (fun _ => F1'.out) ?_
  clear hHeld
  have hHeld := F1'.out
  clear hKc Kc
  revert F1 F1' hHeld
  generalize we.alloc (.cells #[] 44) = wa
  generalize we.heap.size = ge
  intro F1 F1' hHeld
  refine wpAnyL_ready (rs := [7]) (by kernel_rfl) (by simp) ?_
  refine AllReadyL.cons (by simp; rfl) (fun Kc hKc => ?_) AllReadyL.nil
  refine step_own_any (v := .slice (some ⟨ge, 0, none⟩) 0 0) (u := .slice p f.length c) (n := 0) (m := f.length) (base := 0) (base' := 0) rfl (.tmp 22) (.tmp 23) elU rfl rfl F1.out.own rfl (own_later HW.out F1.out.below) (ones_u64 f) (by omega) (Nat.zero_le _) ?_
  intro v1 wb ho hk hv
  have F2 : Hid (FR we wb 0 44 1 v1 f.length (f.map (Value.int .u64))) := by have h := F1.out.app ho hk hv; rw [Nat.zero_add, List.nil_append] at h; exact h
  have F2' : Hid (Pb P (pcs T2) wb) := (F2.out.below.block P PSe.out.plt).trans PSe.out.pr
  obtain ⟨p1, c1, e1⟩ := own_shape F2.out.own
  subst e1
  clear ho hk hv F1 F1'
  refine hKc.out _ _ (fun _ => F2'.out) ?_
  clear hHeld
  have hHeld := F2'.out
  clear hKc Kc
  simp only [Act.put, List.setIfInBounds_toArray, List.set_cons_zero, List.set_cons_succ]
  refine wpAnyL_ready (rs := [8]) (by kernel_rfl) (by simp) ?_
  refine AllReadyL.cons (by simp; rfl) (fun Kc hKc => ?_) AllReadyL.nil
  go_simp
  have F3 : Hid (FR we (wb.alloc (.cells #[.slice p1 f.length c1] 62)) 0 44 1 (.slice p1 f.length c1) f.length (f.map (Value.int .u64))) := F2.out.later (below_alloc wb _)
  have O3 : Hid ((wb.alloc (.cells #[.slice p1 f.length c1] 62)).ownsRow 0 62 1 (.slice (some ⟨wb.heap.size, 0, none⟩) 1 1) 1 [.slice p1 f.length c1]) := own_one (base := 0) (cs := [.slice p1 f.length c1]) wb rfl (Nat.zero_le _)
  have F3' : Hid (Pb P (pcs T2) (wb.alloc (.cells #[.slice p1 f.length c1] 62))) := (F3.out.below.block P PSe.out.plt).trans PSe.out.pr
  refine hKc.out _ _ (fun _ => F3'.out) ?_
  clear hHeld
  have hHeld := F3'.out
  clear hKc Kc F2 F2'
  revert F3 O3 F3' hHeld
  generalize wb.alloc (.cells #[.slice p1 f.length c1] 62) = wc
  generalize wb.heap.size = ob
  intro F3 O3 F3' hHeld
  refine wpAnyL_ready (rs := [9]) (by kernel_rfl) (by simp) ?_
  refine AllReadyL.cons (by simp; rfl) (fun Kc hKc => ?_) AllReadyL.nil
  refine step_own_any (v := v5) (u := .slice (some ⟨ob, 0, none⟩) 1 1) (n := us5.length) (m := 1) (base := 0) (base' := 0) rfl (.tmp 21) (.tmp 25) elUU rfl rfl (own_later L5.out.row F3.out.below) rfl O3.out (by intro z hz; rw [List.mem_singleton.1 hz]; rfl) (by have := HLen.out; omega) (Nat.zero_le _) ?_
  intro v5' wd ho hk hv
  obtain ⟨p5, c5, e5⟩ := own_shape ho
  subst e5
  have MD : Hid (Mid w0 wd P (put T2 14 (.lu (.slice p1 f.length c1) f)) G 7 (.ul (.slice p5 (us5.length + 1) c5) (us5 ++ [.slice p1 f.length c1]) (fs ++ [f])) 14) := grown_line PSe.out T25.out F3.out.own F3.out.below F3.out.new ho hk hv
  have HW9 : Hid (wd.ownsRow 0 44 1 (.slice p f.length c) f.length (f.map (Value.int .u64)) ∧ wd.ownsRow 0 44 1 (.slice pg f.length cg) f.length (f.map (Value.int .u64))) := ⟨own_far (own_later HW.out F3.out.below) hk (fun g hg e => own_ne (own_later HW.out F3.out.below) (own_later L5.out.row F3.out.below) (by decide) hg e), own_far (own_later HGv.out F3.out.below) hk (fun g hg e => own_ne (own_later HGv.out F3.out.below) (own_later L5.out.row F3.out.below) (by decide) hg e)⟩
  have F4' : Hid (Pb P (pcs T2) wd) := by show _ = _; rw [MD.out.pr, pcs_put8 (by omega)]
  refine hKc.out _ _ (fun _ => F4'.out) ?_
  clear hHeld
  have hHeld := F4'.out
  clear hKc Kc ho hk hv O3
  simp only [Act.put, List.setIfInBounds_toArray, List.set_cons_zero, List.set_cons_succ]
  refine wpAnyL_ready (rs := [10]) (by kernel_rfl) (by simp) ?_
  refine AllReadyL.cons (by simp; rfl) (fun Kc hKc => ?_) AllReadyL.nil
  go_simp
  refine hKc.out _ _ (fun _ => F4'.out) ?_
  clear hHeld
  have hHeld := F4'.out
  clear hKc Kc
  refine wpAnyL_ready (rs := [11]) (by kernel_rfl) (by simp) ?_
  refine AllReadyL.cons (by simp; rfl) (fun Kc hKc => ?_) AllReadyL.nil
  go_simp
  refine hKc.out _ _ (fun _ => F4'.out) ?_
  clear hHeld
  have hHeld := F4'.out
  clear hKc Kc
  refine wpAnyL_ready (rs := [12]) (by kernel_rfl) (by simp) ?_
  refine AllReadyL.cons (by simp; rfl) (fun Kc hKc => ?_) AllReadyL.nil
  have e9 := HL.out wd F4'.out
  have f9 : wd.frozen? ⟨P, 7, none⟩ = false := by have h := F4'.out; unfold Pb at h; simp [World.frozen?, h]
  go_simp
  refine hKc.out _ _ (fun h => absurd rfl h) ?_
  clear hKc Kc e9 f9 hHeld
  refine wpAnyL_done (by kernel_rfl) (NoPanic.normal ?_) _
  have PSz : Hid (PS w0 (wd.setCell ⟨P, 7, none⟩ (.slice p5 (us5.length + 1) c5)) P (put (put (put T2 14 (.lu (.slice p1 f.length c1) f)) 7 (.ul (.slice p5 (us5.length + 1) c5) (us5 ++ [.slice p1 f.length c1]) (fs ++ [f]))) 14 .no) G) := MD.out.store (by omega) (by omega)
  have HWz : Hid ((wd.setCell ⟨P, 7, none⟩ (.slice p5 (us5.length + 1) c5)).ownsRow 0 44 1 (.slice p f.length c) f.length (f.map (Value.int .u64)) ∧ (wd.setCell ⟨P, 7, none⟩ (.slice p5 (us5.length + 1) c5)).ownsRow 0 44 1 (.slice pg f.length cg) f.length (f.map (Value.int .u64))) := ⟨own_far HW9.out.1 (Kept.setCell P 7 _) (fun g hg e => by have e' : g = P := e; subst e'; exact own_not HW9.out.1 MD.out.pr (by decide) hg), own_far HW9.out.2 (Kept.setCell P 7 _) (fun g hg e => by have e' : g = P := e; subst e'; exact own_not HW9.out.2 MD.out.pr (by decide) hg)⟩
  clear MD HW9 F3 F3' F4'
  generalize wd.setCell ⟨P, 7, none⟩ (.slice p5 (us5.length + 1) c5) = wz at *
  go_wp2_with fail
  refine (same_line HWz.out.2 HWz.out.1 (by omega)).mono ?_
  rintro e wy ⟨rfl, hm⟩
  have HY : Hid (Below wz.heap.size wz wy) := by obtain ⟨m, rfl⟩ := hm; exact below_drawn m
  clear hm
  go_wp2
  go_ret
  exact ⟨rfl, _, G, PSz.out.later HY.out, shape_line HS.out T24.out HT1.out T25.out HLen.out.2 (by omega)⟩
end Go.Proofs.YtnbegddpgmejnaaGreat
