/-
  Layer 12: LedgerRoom.
-/
import Derived.Test.YtjkmeljefbpbgaaLg
import Derived.BigQuiet
import Derived.Deep.RegionHeld3
namespace Go.Proofs.Ytjkmeljefbpbgaa
open Go.RowKit


set_option maxHeartbeats 4000000 in
set_option maxRecDepth 100000 in
theorem ledgerRoom_any (cy : Int) (p : Option Addr) (len cap : Nat) (f : Nat → OpV) (w : World) (hp : ScIn w p len f) (hn : len ≤ 9223372036854775807) :
    Calls Try.prog 3 #[.int .i64 cy, .slice p len cap] w fun e w' => e = .returned (.bool true) ∧ Below w.heap.size w w' := by
  have HP : Hid (ScIn w p len f) := hp
  clear hp
  have t2 := tmod63 cy
  have e2 := sl63_is cy
  have hj := sl63_lt cy
  go_enter Try.func3, Try.ntmps3
  go_wp2_with fail
  rw [e2]
  clear t2 e2
  generalize sl63 cy = c at *
  have hcc : mayNew ((c : Int) + 2) ((c : Int) + 2) := by unfold mayNew; omega
  refine (o_new w w (Below.refl _ _) hcc).mono ?_
  rintro e w1 ⟨rfl, h1⟩
  generalize w.heap.size + 1 = Q at h1 ⊢
  have H1 : Hid (∃ b, Own w w1 Q b 0 (newS (c + 2) (c + 2))) := ⟨_, h1⟩
  clear h1 hcc
  obtain ⟨b, h1⟩ := H1.out
  have H2 : Hid (Own w w1 Q b 0 (newS (c + 2) (c + 2))) := h1
  clear h1 H1
  go_wp2_with fail
  refine (awake_any w1).mono ?_
  rintro e w2 ⟨rfl, b2⟩
  have H3 : Hid (Own w w2 Q b 0 (newS (c + 2) (c + 2))) := H2.out.later b2
  clear b2 H2
  go_wp2_with fail
  go_loopw [8, 9, 10, 11] (fun tv lv us i wr => ∃ (k n : Nat) (s : Lg), k ≤ len ∧ k ≤ 150 ∧ n ≤ k ∧ s.L.length ≤ k ∧ us = .int .i64 s.used ∧ i = .int .i64 k ∧ Hid (s.cap = (c : Int) + 2 ∧ Own w wr Q b n s ∧ TL w wr tv lv s.L)) (fun _ _ _ i _ => 150 - (intOf i).toNat)
  case atStart => exact ⟨0, 0, newS (c + 2) (c + 2), Nat.zero_le _, Nat.zero_le _, Nat.le_refl _, Nat.le_refl _, rfl, rfl, rfl, H3.out, TL.empty _ _⟩
  case round =>
    clear H3
    obtain ⟨k, n, s, hkn, hk2, hnk, hlk, rfl, rfl, S2⟩ := hrel
    by_cases hk : k < len
    · by_cases hk3 : k < 150
      · have i1 : (k : Int) < (len : Int) := by omega
        have i2 : (k : Int) < 150 := by omega
        have BW : Hid (Below w.heap.size w wr) := S2.out.2.1.below
        obtain ⟨bb, o, rfl, hc⟩ := (HP.out.later BW.out).cells (by omega)
        have hu : U64 (f k).t := HP.out.u64 k hk
        have x0 : wr.cell? ⟨bb, o + k * 4, none⟩ = some (.int .i64 (f k).kd) := hc k hk 0 _ rfl
        have x1 : wr.cell? ⟨bb, o + k * 4 + 1, none⟩ = some (.int .i64 (f k).wh) := hc k hk 1 _ rfl
        have x2 : wr.cell? ⟨bb, o + k * 4 + 2, none⟩ = some (.int .u64 (f k).t) := hc k hk 2 _ rfl
        have x3 : wr.cell? ⟨bb, o + k * 4 + 3, none⟩ = some (.int .i64 (f k).N) := hc k hk 3 _ rfl
        clear hc
        generalize (f k).kd = kd at *
        generalize (f k).wh = wh at *
        generalize (f k).t = t at *
        generalize (f k).N = N at *
        obtain ⟨pt, ct, et, hct, hpt⟩ := own_form S2.out.2.2.tk
        obtain ⟨pl, cl, el, hcl, hpl⟩ := own_form S2.out.2.2.lf
        subst et el
        go_wp2_with fail
        have R3 : Hid (RB w (wr.alloc (.cells #[.int .i64 kd, .int .i64 wh, .int .u64 t, .int .i64 N] 32)) Q b n s (.slice pt s.L.length ct) (.slice pl s.L.length cl) s.L wr.heap.size kd wh t N) := RB.make S2.out.2.1 S2.out.2.2 kd wh t N
        have HC : Hid (s.cap = (c : Int) + 2) := S2.out.1
        clear S2 BW x0 x1 x2 x3
        generalize wr.alloc (.cells #[.int .i64 kd, .int .i64 wh, .int .u64 t, .int .i64 N] 32) = w3 at *
        generalize wr.heap.size = B at *
        go_loopw [13, 14, 15] (fun a kp j wi => ∃ jj : Nat, jj ≤ s.L.length ∧ a = .int .i64 (atv t s.L jj) ∧ kp = .int .i64 (total (s.L.take jj)) ∧ j = .int .i64 jj ∧ Hid (RB w wi Q b n s (.slice pt s.L.length ct) (.slice pl s.L.length cl) s.L B kd wh t N)) (fun _ _ j _ => s.L.length - (intOf j).toNat)
        case atStart => exact ⟨0, Nat.zero_le _, by rw [atv_zero], rfl, rfl, R3⟩
        case round =>
          clear R3
          obtain ⟨jj, hjl, rfl, rfl, rfl, R4⟩ := hrel
          by_cases hjj : jj < s.L.length
          · obtain ⟨gt, rfl⟩ := hpt (by omega)
            obtain ⟨gl, rfl⟩ := hpl (by omega)
            have y1 := own_cell R4.out.tl.tk (j := jj) (u := .int .u64 (s.L[jj]).1) (by simp [V64, hjj])
            have y2 := own_cell R4.out.tl.lf (j := jj) (u := .int .i64 (s.L[jj]).2) (by simp [VI, hjj])
            have y3 := (ocell R4.out.box).2.2.1
            have i3 : (jj : Int) < (s.L.length : Int) := by omega
            have A1 : Hid ((s.L[jj]).1 = t → atv t s.L (jj + 1) = jj) := fun e => atv_hit R4.out.own.ok.fine hjj e
            have A2 : Hid (¬ (s.L[jj]).1 = t → atv t s.L (jj + 1) = atv t s.L jj) := fun e => atv_miss hjj e
            have AT : Hid (total (s.L.take (jj + 1)) = total (s.L.take jj) + (s.L[jj]).2) := total_take hjj
            have n1 := total_take_le R4.out.own.ok.fine jj
            have n2 := total_take_le R4.out.own.ok.fine (jj + 1)
            have n3 := R4.out.own.ok.nums
            have n4 := R4.out.own.ok.fine.nonneg _ (List.getElem_mem hjj)
            rw [AT.out] at n2
            generalize (s.L[jj]).1 = xt at *
            generalize (s.L[jj]).2 = xl at *
            generalize hat : atv t s.L jj = a0 at *
            generalize hta : total (s.L.take jj) = ta at *
            clear hat hta
            obtain ⟨n11, n12⟩ := n1
            obtain ⟨n21, n22⟩ := n2
            obtain ⟨n31, n32, n33, n34, n35⟩ := n3
            cases hz : (xt == t)
            · have hx : ¬ xt = t := by simpa using hz
              have AE := A2.out hx
              have HAE : Hid (atv t s.L (jj + 1) = a0) := AE
              clear A1 A2 AE
              go_wp2_with fail
              go_quiet (fail)
              have R5 : Hid (RB w (wr.drewN nq) Q b n s (.slice (some ⟨gt, 0, none⟩) s.L.length ct) (.slice (some ⟨gl, 0, none⟩) s.L.length cl) s.L B kd wh t N) := R4.out.drawn nq
              go_wp2_with fail
              go_roundw
              case rel => exact ⟨jj + 1, by omega, by rw [HAE.out], by rw [AT.out], by go_num, R5⟩
              case measure => simp [intOf]; omega
            · have hx : xt = t := by simpa using hz
              have HAE : Hid (atv t s.L (jj + 1) = jj) := A1.out hx
              clear A1 A2
              go_wp2_with fail
              go_quiet (fail)
              have R5 : Hid (RB w (wr.drewN nq) Q b n s (.slice (some ⟨gt, 0, none⟩) s.L.length ct) (.slice (some ⟨gl, 0, none⟩) s.L.length cl) s.L B kd wh t N) := R4.out.drawn nq
              go_wp2_with fail
              go_roundw
              case rel => exact ⟨jj + 1, by omega, by rw [HAE.out], by rw [AT.out], by go_num, R5⟩
              case measure => simp [intOf]; omega
          · obtain rfl : jj = s.L.length := by omega
            rw [List.take_length]
            clear hjj hjl
            obtain ⟨n1, n2, n3, n4, n5⟩ := R4.out.own.ok.nums
            have hcap : s.used + total s.L ≤ (c : Int) + 2 := by rw [← HC.out]; exact n5
            have q1 : (s.used == s.used) = true := by simp
            have q2 : (total s.L == total s.L) = true := by simp
            go_wp2_with fail
            refine (r_used R4.out).mono ?_
            rintro e w4 ⟨rfl, rfl⟩
            go_wp2_with fail
            refine (r_reserved R4.out).mono ?_
            rintro e w5 ⟨rfl, rfl⟩
            have z0 := (ocell R4.out.box).1
            have z2 := (ocell R4.out.box).2.2.1
            have z3 := (ocell R4.out.box).2.2.2
            have hnn : n < 10000 := by omega
            by_cases k1 : kd = 1
            · as_aux_lemma =>
                subst k1
                by_cases h0 : t = 0
                · subst h0
                  have hE : rsvE s 0 N = 2 := rsvE_in (.inl rfl)
                  generalize atv 0 s.L s.L.length = av
                  go_wp2_with fail
                  refine (r_reserve R4.out hnn hu hE (rsvS_not (by rw [hE]; decide))).mono ?_
                  rintro e w6 ⟨rfl, h6⟩
                  have R6 : Hid (RB w w6 Q b (n + 1) s (.slice pt s.L.length ct) (.slice pl s.L.length cl) s.L B 1 wh 0 N) := h6
                  clear h6 R4
                  have z0 := (ocell R6.out.box).1
                  have z2 := (ocell R6.out.box).2.2.1
                  have z3 := (ocell R6.out.box).2.2.2
                  go_wp2_with fail
                  go_roundw
                  case rel => exact ⟨k + 1, n + 1, s, by omega, by omega, by omega, by omega, rfl, by go_num, HC.out, R6.out.own, R6.out.tl⟩
                  case measure => simp [intOf]; omega
                have h0b : (t == 0) = false := by simpa using h0
                have h0c : (t != 0) = true := by simpa using h0
                by_cases h1 : N < 1
                · have hE : rsvE s t N = 2 := rsvE_in (.inr h1)
                  generalize atv t s.L s.L.length = av
                  go_wp2_with fail
                  refine (r_reserve R4.out hnn hu hE (rsvS_not (by rw [hE]; decide))).mono ?_
                  rintro e w6 ⟨rfl, h6⟩
                  have R6 : Hid (RB w w6 Q b (n + 1) s (.slice pt s.L.length ct) (.slice pl s.L.length cl) s.L B 1 wh t N) := h6
                  clear h6 R4
                  have z0 := (ocell R6.out.box).1
                  have z2 := (ocell R6.out.box).2.2.1
                  have z3 := (ocell R6.out.box).2.2.2
                  go_wp2_with fail
                  go_roundw
                  case rel => exact ⟨k + 1, n + 1, s, by omega, by omega, by omega, by omega, rfl, by go_num, HC.out, R6.out.own, R6.out.tl⟩
                  case measure => simp [intOf]; omega
                cases hl : look t s.L with
                | some v =>
                  have hE : rsvE s t N = 110 := rsvE_has (by omega) hl
                  rw [atv_some hl]
                  generalize pos t s.L = pp
                  clear hl
                  go_wp2_with fail
                  refine (r_reserve R4.out hnn hu hE (rsvS_not (by rw [hE]; decide))).mono ?_
                  rintro e w6 ⟨rfl, h6⟩
                  have R6 : Hid (RB w w6 Q b (n + 1) s (.slice pt s.L.length ct) (.slice pl s.L.length cl) s.L B 1 wh t N) := h6
                  clear h6 R4
                  have z0 := (ocell R6.out.box).1
                  have z2 := (ocell R6.out.box).2.2.1
                  have z3 := (ocell R6.out.box).2.2.2
                  go_wp2_with fail
                  go_roundw
                  case rel => exact ⟨k + 1, n + 1, s, by omega, by omega, by omega, by omega, rfl, by go_num, HC.out, R6.out.own, R6.out.tl⟩
                  case measure => simp [intOf]; omega
                | none =>
                  rw [atv_none hl]
                  cases hf : fitsS s N with
                  | false =>
                    have hE : rsvE s t N = 120 := rsvE_room (by omega) hl hf
                    have hff : ¬ N ≤ (c : Int) + 2 - s.used - total s.L := fun hh => by rw [← HC.out] at hh; have : fitsS s N = true := decide_eq_true ⟨by omega, hh⟩; rw [hf] at this; cases this
                    clear hl hf
                    go_wp2_with fail
                    refine (r_reserve R4.out hnn hu hE (rsvS_not (by rw [hE]; decide))).mono ?_
                    rintro e w6 ⟨rfl, h6⟩
                    have R6 : Hid (RB w w6 Q b (n + 1) s (.slice pt s.L.length ct) (.slice pl s.L.length cl) s.L B 1 wh t N) := h6
                    clear h6 R4
                    have z0 := (ocell R6.out.box).1
                    have z2 := (ocell R6.out.box).2.2.1
                    have z3 := (ocell R6.out.box).2.2.2
                    go_wp2_with fail
                    go_roundw
                    case rel => exact ⟨k + 1, n + 1, s, by omega, by omega, by omega, by omega, rfl, by go_num, HC.out, R6.out.own, R6.out.tl⟩
                    case measure => simp [intOf]; omega
                  | true =>
                    have hE : rsvE s t N = 0 := rsvE_ok (by omega) hl hf
                    have hff : N ≤ (c : Int) + 2 - s.used - total s.L := by rw [← HC.out]; have := hf; simp only [fitsS, decide_eq_true_eq] at this; exact this.2
                    clear hl hf
                    go_wp2_with fail
                    refine (r_reserve R4.out hnn hu hE (rsvS_ok hE)).mono ?_
                    rintro e w6 ⟨rfl, h6⟩
                    have R6 : Hid (RB w w6 Q b (n + 1) { s with L := s.L ++ [(t, N)] } (.slice pt s.L.length ct) (.slice pl s.L.length cl) s.L B 1 wh t N) := h6
                    clear h6 R4
                    have z0 := (ocell R6.out.box).1
                    have z2 := (ocell R6.out.box).2.2.1
                    have z3 := (ocell R6.out.box).2.2.2
                    clear z0 z2 z3
                    have z2 := (ocell R6.out.box).2.2.1
                    have z3 := (ocell R6.out.box).2.2.2
                    go_wp2_with fail
                    refine wp_region_noPanic ?_
                    refine wp_region_held_drew (S := fun w' => w'.heap[B]? = some (.cells (ocells 1 wh t N) 32 (0, 0))) (by kernel_rfl) R6.out.box (fun hHeld => ?_)
                    have C0 : Hid (RC w w6.drew Q b (n + 1) { s with L := s.L ++ [(t, N)] } (.slice pt s.L.length ct) s.L.length (V64 (s.L.map Prod.fst)) (.slice pl s.L.length cl) s.L.length (VI (s.L.map Prod.snd)) B 1 wh t N) := R6.out.rc.later (below_drawn 1)
                    clear z2 z3 R6
                    generalize w6.drew = we at *
                    refine wpAnyH_take (i := 0) (v := ?va1) (by simp; rfl) (by kernel_rfl) (by kernel_rfl) (by kernel_rfl) (fun _ _ _ h => h) (Or.inl ⟨by rfl, ?ya1⟩) hHeld ?ra1
                    case ya1 => intro w hSw; clear hSw; go_simp; with_reducible rfl
                    simp only [Act.put, List.setIfInBounds_toArray, List.set_cons_zero, List.set_cons_succ]
                    refine wpAnyH_take (i := 1) (v := ?va2) (by simp; rfl) (by kernel_rfl) (by kernel_rfl) (by kernel_rfl) (fun _ _ _ h => h) (Or.inl ⟨by rfl, ?ya2⟩) hHeld ?ra2
                    case ya2 => intro w hSw; clear hSw; go_simp; with_reducible rfl
                    simp only [Act.put, List.setIfInBounds_toArray, List.set_cons_zero, List.set_cons_succ]
                    refine wpAnyH_take (i := 2) (v := ?va3) (by simp; rfl) (by kernel_rfl) (by kernel_rfl) (by kernel_rfl) (fun _ _ _ h => h) (Or.inl ⟨by rfl, ?ya3⟩) hHeld ?ra3
                    case ya3 => intro w hSw; have z := (ocell hSw).2.2.1; clear hSw; go_simp; with_reducible rfl
                    simp only [Act.put, List.setIfInBounds_toArray, List.set_cons_zero, List.set_cons_succ]
                    refine wpAnyH_take (i := 5) (v := ?va4) (by simp; rfl) (by kernel_rfl) (by kernel_rfl) (by kernel_rfl) (fun _ _ _ h => h) (Or.inl ⟨by rfl, ?ya4⟩) hHeld ?ra4
                    case ya4 => intro w hSw; clear hSw; go_simp; with_reducible rfl
                    simp only [Act.put, List.setIfInBounds_toArray, List.set_cons_zero, List.set_cons_succ]
                    refine wpAnyH_take (i := 6) (v := ?va5) (by simp; rfl) (by kernel_rfl) (by kernel_rfl) (by kernel_rfl) (fun _ _ _ h => h) (Or.inl ⟨by rfl, ?ya5⟩) hHeld ?ra5
                    case ya5 => intro w hSw; clear hSw; go_simp; with_reducible rfl
                    simp only [Act.put, List.setIfInBounds_toArray, List.set_cons_zero, List.set_cons_succ]
                    refine wpAnyH_take (i := 7) (v := ?va6) (by simp; rfl) (by kernel_rfl) (by kernel_rfl) (by kernel_rfl) (fun _ _ _ h => h) (Or.inl ⟨by rfl, ?ya6⟩) hHeld ?ra6
                    case ya6 => intro w hSw; have z := (ocell hSw).2.2.2; clear hSw; go_simp; with_reducible rfl
                    simp only [Act.put, List.setIfInBounds_toArray, List.set_cons_zero, List.set_cons_succ]
                    refine wpAnyH_ready (rs := [3, 8]) (by kernel_rfl) (by simp) ?_
                    refine AllReadyH.cons (by simp; rfl) (fun Kc hKc => ?_) (AllReadyH.cons (by simp; rfl) (fun Kc hKc => ?_) AllReadyH.nil)
                    · go_simp
                      have C1 : Hid (RC w (we.alloc (.cells #[.int .u64 t] 30)) Q b (n + 1) { s with L := s.L ++ [(t, N)] } (.slice pt s.L.length ct) s.L.length (V64 (s.L.map Prod.fst)) (.slice pl s.L.length cl) s.L.length (VI (s.L.map Prod.snd)) B 1 wh t N) := C0.out.later (below_alloc we _)
                      have OT1 : Hid (One (we.alloc (.cells #[.int .u64 t] 30)) we.heap.size 30 (.int .u64 t)) := One.made we 30 _
                      refine hKc.out _ _ C1.out.box (fun hHeld => ?_)
                      clear hKc Kc C0
                      generalize we.alloc (.cells #[.int .u64 t] 30) = wq1 at *
                      generalize we.heap.size = gT1 at *
                      refine wpAnyH_ready (rs := [4, 8]) (by kernel_rfl) (by simp) ?_
                      refine AllReadyH.cons (by simp; rfl) (fun Kc hKc => ?_) (AllReadyH.cons (by simp; rfl) (fun Kc hKc => ?_) AllReadyH.nil)
                      · refine step_own rfl (.tmp 132) (.tmp 135) el28 rfl rfl C1.out.tk ⟨gT1, 0, none⟩ 1 1 [.int .u64 t] rfl rfl OT1.out.news (one_one rfl) (by omega) C1.out.own.below.size ?_
                        intro vT wq2 ho hk _
                        have C2 : Hid (RC w wq2 Q b (n + 1) { s with L := s.L ++ [(t, N)] } vT (s.L.length + 1) ((V64 (s.L.map Prod.fst)) ++ [.int .u64 t]) (.slice pl s.L.length cl) s.L.length (VI (s.L.map Prod.snd)) B 1 wh t N) := C1.out.turnT ho hk
                        clear ho hk OT1
                        refine hKc.out _ _ C2.out.box (fun hHeld => ?_)
                        clear hKc Kc C1
                        simp only [Act.put, List.setIfInBounds_toArray, List.set_cons_zero, List.set_cons_succ]
                        refine wpAnyH_ready (rs := [8]) (by kernel_rfl) (by simp) ?_
                        refine AllReadyH.cons (by simp; rfl) (fun Kc hKc => ?_) AllReadyH.nil
                        go_simp
                        have C3 : Hid (RC w (wq2.alloc (.cells #[.int .i64 N] 3)) Q b (n + 1) { s with L := s.L ++ [(t, N)] } vT (s.L.length + 1) ((V64 (s.L.map Prod.fst)) ++ [.int .u64 t]) (.slice pl s.L.length cl) s.L.length (VI (s.L.map Prod.snd)) B 1 wh t N) := C2.out.later (below_alloc wq2 _)
                        have OL3 : Hid (One (wq2.alloc (.cells #[.int .i64 N] 3)) wq2.heap.size 3 (.int .i64 N)) := One.made wq2 3 _
                        refine hKc.out _ _ C3.out.box (fun hHeld => ?_)
                        clear hKc Kc C2
                        generalize wq2.alloc (.cells #[.int .i64 N] 3) = wq3 at *
                        generalize wq2.heap.size = gL3 at *
                        refine wpAnyH_ready (rs := [9]) (by kernel_rfl) (by simp) ?_
                        refine AllReadyH.cons (by simp; rfl) (fun Kc hKc => ?_) AllReadyH.nil
                        refine step_own rfl (.tmp 137) (.tmp 140) el29 rfl rfl C3.out.lf ⟨gL3, 0, none⟩ 1 1 [.int .i64 N] rfl rfl OL3.out.news (one_one rfl) (by omega) C3.out.own.below.size ?_
                        intro vL wq4 ho hk _
                        have C4 : Hid (RC w wq4 Q b (n + 1) { s with L := s.L ++ [(t, N)] } vT (s.L.length + 1) ((V64 (s.L.map Prod.fst)) ++ [.int .u64 t]) vL (s.L.length + 1) ((VI (s.L.map Prod.snd)) ++ [.int .i64 N]) B 1 wh t N) := C3.out.turnL ho hk
                        clear ho hk OL3
                        refine hKc.out _ _ C4.out.box (fun hHeld => ?_)
                        clear hKc Kc C3
                        simp only [Act.put, List.setIfInBounds_toArray, List.set_cons_zero, List.set_cons_succ]
                        refine wpAnyH_take (i := 10) (v := ?va7) (by simp; rfl) (by kernel_rfl) (by kernel_rfl) (by kernel_rfl) (fun _ _ _ h => h) (Or.inl ⟨by rfl, ?ya7⟩) hHeld ?ra7
                        case ya7 => intro w hSw; clear hSw; go_simp; with_reducible rfl
                        simp only [Act.put, List.setIfInBounds_toArray, List.set_cons_zero, List.set_cons_succ]
                        refine wpAnyH_take (i := 11) (v := ?va8) (by simp; rfl) (by kernel_rfl) (by kernel_rfl) (by kernel_rfl) (fun _ _ _ h => h) (Or.inl ⟨by rfl, ?ya8⟩) hHeld ?ra8
                        case ya8 => intro w hSw; clear hSw; go_simp; with_reducible rfl
                        simp only [Act.put, List.setIfInBounds_toArray, List.set_cons_zero, List.set_cons_succ]
                        clear hHeld
                        refine wpAnyH_done (by kernel_rfl) (NoPanic.normal ?_) _
                        go_wp2_with fail
                        go_roundw
                        case rel => exact ⟨k + 1, n + 1, { s with L := s.L ++ [(t, N)] }, by omega, by omega, by omega, by show (s.L ++ [(t, N)]).length ≤ k + 1; simp; omega, rfl, by go_num, HC.out, C4.out.own, TL.app C4.out.tk C4.out.lf⟩
                        case measure => simp [intOf]; omega
                      · go_simp
                        have C2 : Hid (RC w (wq1.alloc (.cells #[.int .i64 N] 3)) Q b (n + 1) { s with L := s.L ++ [(t, N)] } (.slice pt s.L.length ct) s.L.length (V64 (s.L.map Prod.fst)) (.slice pl s.L.length cl) s.L.length (VI (s.L.map Prod.snd)) B 1 wh t N) := C1.out.later (below_alloc wq1 _)
                        have OL2 : Hid (One (wq1.alloc (.cells #[.int .i64 N] 3)) wq1.heap.size 3 (.int .i64 N)) := One.made wq1 3 _
                        have OT2 : Hid (One (wq1.alloc (.cells #[.int .i64 N] 3)) gT1 30 (.int .u64 t)) := OT1.out.later (below_alloc wq1 _)
                        clear OT1
                        refine hKc.out _ _ C2.out.box (fun hHeld => ?_)
                        clear hKc Kc C1
                        generalize wq1.alloc (.cells #[.int .i64 N] 3) = wq2 at *
                        generalize wq1.heap.size = gL2 at *
                        refine wpAnyH_ready (rs := [4]) (by kernel_rfl) (by simp) ?_
                        refine AllReadyH.cons (by simp; rfl) (fun Kc hKc => ?_) AllReadyH.nil
                        refine step_own rfl (.tmp 132) (.tmp 135) el28 rfl rfl C2.out.tk ⟨gT1, 0, none⟩ 1 1 [.int .u64 t] rfl rfl OT2.out.news (one_one rfl) (by omega) C2.out.own.below.size ?_
                        intro vT wq3 ho hk _
                        have C3 : Hid (RC w wq3 Q b (n + 1) { s with L := s.L ++ [(t, N)] } vT (s.L.length + 1) ((V64 (s.L.map Prod.fst)) ++ [.int .u64 t]) (.slice pl s.L.length cl) s.L.length (VI (s.L.map Prod.snd)) B 1 wh t N) := C2.out.turnT ho hk
                        have OL3 := (show Hid (One wq3 _ _ _) from OL2.out.far C2.out.tk (by decide) hk)
                        clear OL2
                        clear ho hk OT2
                        refine hKc.out _ _ C3.out.box (fun hHeld => ?_)
                        clear hKc Kc C2
                        simp only [Act.put, List.setIfInBounds_toArray, List.set_cons_zero, List.set_cons_succ]
                        refine wpAnyH_ready (rs := [9]) (by kernel_rfl) (by simp) ?_
                        refine AllReadyH.cons (by simp; rfl) (fun Kc hKc => ?_) AllReadyH.nil
                        refine step_own rfl (.tmp 137) (.tmp 140) el29 rfl rfl C3.out.lf ⟨gL2, 0, none⟩ 1 1 [.int .i64 N] rfl rfl OL3.out.news (one_one rfl) (by omega) C3.out.own.below.size ?_
                        intro vL wq4 ho hk _
                        have C4 : Hid (RC w wq4 Q b (n + 1) { s with L := s.L ++ [(t, N)] } vT (s.L.length + 1) ((V64 (s.L.map Prod.fst)) ++ [.int .u64 t]) vL (s.L.length + 1) ((VI (s.L.map Prod.snd)) ++ [.int .i64 N]) B 1 wh t N) := C3.out.turnL ho hk
                        clear ho hk OL3
                        refine hKc.out _ _ C4.out.box (fun hHeld => ?_)
                        clear hKc Kc C3
                        simp only [Act.put, List.setIfInBounds_toArray, List.set_cons_zero, List.set_cons_succ]
                        refine wpAnyH_take (i := 10) (v := ?va9) (by simp; rfl) (by kernel_rfl) (by kernel_rfl) (by kernel_rfl) (fun _ _ _ h => h) (Or.inl ⟨by rfl, ?ya9⟩) hHeld ?ra9
                        case ya9 => intro w hSw; clear hSw; go_simp; with_reducible rfl
                        simp only [Act.put, List.setIfInBounds_toArray, List.set_cons_zero, List.set_cons_succ]
                        refine wpAnyH_take (i := 11) (v := ?va10) (by simp; rfl) (by kernel_rfl) (by kernel_rfl) (by kernel_rfl) (fun _ _ _ h => h) (Or.inl ⟨by rfl, ?ya10⟩) hHeld ?ra10
                        case ya10 => intro w hSw; clear hSw; go_simp; with_reducible rfl
                        simp only [Act.put, List.setIfInBounds_toArray, List.set_cons_zero, List.set_cons_succ]
                        clear hHeld
                        refine wpAnyH_done (by kernel_rfl) (NoPanic.normal ?_) _
                        go_wp2_with fail
                        go_roundw
                        case rel => exact ⟨k + 1, n + 1, { s with L := s.L ++ [(t, N)] }, by omega, by omega, by omega, by show (s.L ++ [(t, N)]).length ≤ k + 1; simp; omega, rfl, by go_num, HC.out, C4.out.own, TL.app C4.out.tk C4.out.lf⟩
                        case measure => simp [intOf]; omega
                    · go_simp
                      have C1 : Hid (RC w (we.alloc (.cells #[.int .i64 N] 3)) Q b (n + 1) { s with L := s.L ++ [(t, N)] } (.slice pt s.L.length ct) s.L.length (V64 (s.L.map Prod.fst)) (.slice pl s.L.length cl) s.L.length (VI (s.L.map Prod.snd)) B 1 wh t N) := C0.out.later (below_alloc we _)
                      have OL1 : Hid (One (we.alloc (.cells #[.int .i64 N] 3)) we.heap.size 3 (.int .i64 N)) := One.made we 3 _
                      refine hKc.out _ _ C1.out.box (fun hHeld => ?_)
                      clear hKc Kc C0
                      generalize we.alloc (.cells #[.int .i64 N] 3) = wq1 at *
                      generalize we.heap.size = gL1 at *
                      refine wpAnyH_ready (rs := [3]) (by kernel_rfl) (by simp) ?_
                      refine AllReadyH.cons (by simp; rfl) (fun Kc hKc => ?_) AllReadyH.nil
                      go_simp
                      have C2 : Hid (RC w (wq1.alloc (.cells #[.int .u64 t] 30)) Q b (n + 1) { s with L := s.L ++ [(t, N)] } (.slice pt s.L.length ct) s.L.length (V64 (s.L.map Prod.fst)) (.slice pl s.L.length cl) s.L.length (VI (s.L.map Prod.snd)) B 1 wh t N) := C1.out.later (below_alloc wq1 _)
                      have OT2 : Hid (One (wq1.alloc (.cells #[.int .u64 t] 30)) wq1.heap.size 30 (.int .u64 t)) := One.made wq1 30 _
                      have OL2 : Hid (One (wq1.alloc (.cells #[.int .u64 t] 30)) gL1 3 (.int .i64 N)) := OL1.out.later (below_alloc wq1 _)
                      clear OL1
                      refine hKc.out _ _ C2.out.box (fun hHeld => ?_)
                      clear hKc Kc C1
                      generalize wq1.alloc (.cells #[.int .u64 t] 30) = wq2 at *
                      generalize wq1.heap.size = gT2 at *
                      refine wpAnyH_ready (rs := [4]) (by kernel_rfl) (by simp) ?_
                      refine AllReadyH.cons (by simp; rfl) (fun Kc hKc => ?_) AllReadyH.nil
                      refine step_own rfl (.tmp 132) (.tmp 135) el28 rfl rfl C2.out.tk ⟨gT2, 0, none⟩ 1 1 [.int .u64 t] rfl rfl OT2.out.news (one_one rfl) (by omega) C2.out.own.below.size ?_
                      intro vT wq3 ho hk _
                      have C3 : Hid (RC w wq3 Q b (n + 1) { s with L := s.L ++ [(t, N)] } vT (s.L.length + 1) ((V64 (s.L.map Prod.fst)) ++ [.int .u64 t]) (.slice pl s.L.length cl) s.L.length (VI (s.L.map Prod.snd)) B 1 wh t N) := C2.out.turnT ho hk
                      have OL3 := (show Hid (One wq3 _ _ _) from OL2.out.far C2.out.tk (by decide) hk)
                      clear OL2
                      clear ho hk OT2
                      refine hKc.out _ _ C3.out.box (fun hHeld => ?_)
                      clear hKc Kc C2
                      simp only [Act.put, List.setIfInBounds_toArray, List.set_cons_zero, List.set_cons_succ]
                      refine wpAnyH_ready (rs := [9]) (by kernel_rfl) (by simp) ?_
                      refine AllReadyH.cons (by simp; rfl) (fun Kc hKc => ?_) AllReadyH.nil
                      refine step_own rfl (.tmp 137) (.tmp 140) el29 rfl rfl C3.out.lf ⟨gL1, 0, none⟩ 1 1 [.int .i64 N] rfl rfl OL3.out.news (one_one rfl) (by omega) C3.out.own.below.size ?_
                      intro vL wq4 ho hk _
                      have C4 : Hid (RC w wq4 Q b (n + 1) { s with L := s.L ++ [(t, N)] } vT (s.L.length + 1) ((V64 (s.L.map Prod.fst)) ++ [.int .u64 t]) vL (s.L.length + 1) ((VI (s.L.map Prod.snd)) ++ [.int .i64 N]) B 1 wh t N) := C3.out.turnL ho hk
                      clear ho hk OL3
                      refine hKc.out _ _ C4.out.box (fun hHeld => ?_)
                      clear hKc Kc C3
                      simp only [Act.put, List.setIfInBounds_toArray, List.set_cons_zero, List.set_cons_succ]
                      refine wpAnyH_take (i := 10) (v := ?va11) (by simp; rfl) (by kernel_rfl) (by kernel_rfl) (by kernel_rfl) (fun _ _ _ h => h) (Or.inl ⟨by rfl, ?ya11⟩) hHeld ?ra11
                      case ya11 => intro w hSw; clear hSw; go_simp; with_reducible rfl
                      simp only [Act.put, List.setIfInBounds_toArray, List.set_cons_zero, List.set_cons_succ]
                      refine wpAnyH_take (i := 11) (v := ?va12) (by simp; rfl) (by kernel_rfl) (by kernel_rfl) (by kernel_rfl) (fun _ _ _ h => h) (Or.inl ⟨by rfl, ?ya12⟩) hHeld ?ra12
                      case ya12 => intro w hSw; clear hSw; go_simp; with_reducible rfl
                      simp only [Act.put, List.setIfInBounds_toArray, List.set_cons_zero, List.set_cons_succ]
                      clear hHeld
                      refine wpAnyH_done (by kernel_rfl) (NoPanic.normal ?_) _
                      go_wp2_with fail
                      go_roundw
                      case rel => exact ⟨k + 1, n + 1, { s with L := s.L ++ [(t, N)] }, by omega, by omega, by omega, by show (s.L ++ [(t, N)]).length ≤ k + 1; simp; omega, rfl, by go_num, HC.out, C4.out.own, TL.app C4.out.tk C4.out.lf⟩
                      case measure => simp [intOf]; omega
            have b1 : (kd == 1) = false := by rw [beq_eq_false_iff_ne]; exact k1
            clear k1
            by_cases k2 : kd = 2
            · as_aux_lemma =>
                subst k2
                cases hl : look t s.L with
                | none =>
                  have hE : appE s t = 110 ∧ appS s t = s := ⟨by simp [appE, hl], by simp [appS, hl]⟩
                  rw [atv_none hl]
                  clear hl
                  go_wp2_with fail
                  refine (r_append R4.out hnn hu hE.1 hE.2).mono ?_
                  rintro e w6 ⟨rfl, h6⟩
                  have R6 : Hid (RB w w6 Q b (n + 1) s (.slice pt s.L.length ct) (.slice pl s.L.length cl) s.L B 2 wh t N) := h6
                  clear h6 R4
                  have z0 := (ocell R6.out.box).1
                  have z2 := (ocell R6.out.box).2.2.1
                  have z3 := (ocell R6.out.box).2.2.2
                  go_wp2_with fail
                  go_roundw
                  case rel => exact ⟨k + 1, n + 1, s, by omega, by omega, by omega, by omega, rfl, by go_num, HC.out, R6.out.own, R6.out.tl⟩
                  case measure => simp [intOf]; omega
                | some v =>
                  by_cases hv : v = 0
                  · subst hv
                    have hps := pos_some hl
                    rw [atv_some hl]
                    obtain ⟨hpl1, hpl2⟩ := hps
                    obtain ⟨gl, rfl⟩ := hpl (by omega)
                    have HPV : Hid (pos t s.L < s.L.length ∧ look t s.L = some 0) := ⟨hpl1, hl⟩
                    have i5 : ((pos t s.L : Nat) : Int) < (s.L.length : Int) := by omega
                    have hcx : (VI (s.L.map Prod.snd))[pos t s.L]? = some (.int .i64 0) := by simp [VI, hpl1, hpl2]
                    clear hpl1 hpl2
                    have hE : appE s t = 120 ∧ appS s t = s := ⟨by simp [appE, hl], by simp [appS, hl]⟩
                    clear hl
                    go_wp2_with fail
                    refine (r_append R4.out hnn hu hE.1 hE.2).mono ?_
                    rintro e w6 ⟨rfl, h6⟩
                    have R6 : Hid (RB w w6 Q b (n + 1) s (.slice pt s.L.length ct) (.slice (some ⟨gl, 0, none⟩) s.L.length cl) s.L B 2 wh t N) := h6
                    clear h6 R4
                    have z0 := (ocell R6.out.box).1
                    have z2 := (ocell R6.out.box).2.2.1
                    have z3 := (ocell R6.out.box).2.2.2
                    have y1 := own_cell R6.out.tl.lf hcx
                    clear hcx hE
                    generalize pos t s.L = pp at *
                    go_wp2_with fail
                    go_roundw
                    case rel => exact ⟨k + 1, n + 1, s, by omega, by omega, by omega, by omega, rfl, by go_num, HC.out, R6.out.own, R6.out.tl⟩
                    case measure => simp [intOf]; omega
                  · have R6_ok : Hid (Fine s.L) := R4.out.own.ok.fine
                    have SL : Hid ((set t (v - 1) s.L).length = s.L.length) := by show _ = _; rw [set_pos]; simp
                    have SF : Hid (V64 ((set t (v - 1) s.L).map Prod.fst) = V64 (s.L.map Prod.fst)) := by show _ = _; rw [set_fst]
                    have SS : Hid (VI ((set t (v - 1) s.L).map Prod.snd) = (VI (s.L.map Prod.snd)).set (pos t s.L) (.int .i64 (v - 1))) := by show _ = _; rw [set_pos]; simp [VI, List.map_set]
                    have hps := pos_some hl
                    rw [atv_some hl]
                    obtain ⟨hpl1, hpl2⟩ := hps
                    obtain ⟨gl, rfl⟩ := hpl (by omega)
                    have HPV : Hid (pos t s.L < s.L.length ∧ look t s.L = some v) := ⟨hpl1, hl⟩
                    have i5 : ((pos t s.L : Nat) : Int) < (s.L.length : Int) := by omega
                    have hcx : (VI (s.L.map Prod.snd))[pos t s.L]? = some (.int .i64 v) := by simp [VI, hpl1, hpl2]
                    clear hpl1 hpl2
                    have hE : appE s t = 0 ∧ appS s t = { s with used := s.used + 1, L := set t (v - 1) s.L } := ⟨by simp [appE, hl, hv], by simp [appS, hl, hv]⟩
                    clear hl
                    go_wp2_with fail
                    refine (r_append R4.out hnn hu hE.1 hE.2).mono ?_
                    rintro e w6 ⟨rfl, h6⟩
                    have R6 : Hid (RB w w6 Q b (n + 1) { s with used := s.used + 1, L := set t (v - 1) s.L } (.slice pt s.L.length ct) (.slice (some ⟨gl, 0, none⟩) s.L.length cl) s.L B 2 wh t N) := h6
                    clear h6 R4
                    have z0 := (ocell R6.out.box).1
                    have z2 := (ocell R6.out.box).2.2.1
                    have z3 := (ocell R6.out.box).2.2.2
                    have y1 := own_cell R6.out.tl.lf hcx
                    clear hcx hE
                    have yf := own_free R6.out.tl.lf (pos t s.L)
                    have hvv : 0 < v := by have := look_le R6_ok.out HPV.out.2; omega
                    have hv64 : v ≤ 64 := by have := look_le R6_ok.out HPV.out.2; omega
                    have R7 : Hid (RC w (w6.setCell ⟨gl, pos t s.L, none⟩ (.int .i64 (v - 1))) Q b (n + 1) { s with used := s.used + 1, L := set t (v - 1) s.L } (.slice pt s.L.length ct) s.L.length (V64 (s.L.map Prod.fst)) (.slice (some ⟨gl, 0, none⟩) s.L.length cl) s.L.length ((VI (s.L.map Prod.snd)).set (pos t s.L) (.int .i64 (v - 1))) B 2 wh t N) := R6.out.rc.turnL (own_set R6.out.tl.lf rfl _ _) ((Kept.setCell gl (pos t s.L) _).wider fun x _ e => by rw [e]; rfl)
                    generalize hpp : pos t s.L = pp at *
                    clear hpp
                    go_wp2_with fail
                    go_roundw
                    case rel => exact ⟨k + 1, n + 1, { s with used := s.used + 1, L := set t (v - 1) s.L }, by omega, by omega, by omega, by rw [SL.out]; omega, rfl, by go_num, HC.out, R7.out.own, by rw [SL.out, SF.out]; exact R7.out.tk, by rw [SL.out, SS.out]; exact R7.out.lf⟩
                    case measure => simp [intOf]; omega
            have b2 : (kd == 2) = false := by rw [beq_eq_false_iff_ne]; exact k2
            clear k2
            by_cases k3 : kd = 3
            · as_aux_lemma =>
                subst k3
                cases hl : look t s.L with
                | none =>
                  have hE : clsE s t = 110 ∧ clsS s t = s := ⟨by simp [clsE, hl], by simp [clsS, cut_none hl]⟩
                  rw [atv_none hl]
                  clear hl
                  go_wp2_with fail
                  refine (r_close R4.out hu hE.1 hE.2).mono ?_
                  rintro e w6 ⟨rfl, h6⟩
                  have R6 : Hid (RB w w6 Q b (n + 1) s (.slice pt s.L.length ct) (.slice pl s.L.length cl) s.L B 3 wh t N) := h6
                  clear h6 R4
                  have z0 := (ocell R6.out.box).1
                  have z2 := (ocell R6.out.box).2.2.1
                  have z3 := (ocell R6.out.box).2.2.2
                  go_wp2_with fail
                  go_roundw
                  case rel => exact ⟨k + 1, n + 1, s, by omega, by omega, by omega, by omega, rfl, by go_num, HC.out, R6.out.own, R6.out.tl⟩
                  case measure => simp [intOf]; omega
                | some v =>
                  have hE : clsE s t = 0 := by simp [clsE, hl]
                  have CL := cut_len hl
                  have CLH : Hid (pos t s.L < s.L.length ∧ (cut t s.L).length = 0 + pos t s.L + (s.L.length - (pos t s.L + 1))) := CL
                  rw [atv_some hl]
                  have hp1 := CL.1
                  obtain ⟨gl, rfl⟩ := hpl (by omega)
                  obtain ⟨gt, rfl⟩ := hpt (by omega)
                  clear hl CL
                  go_wp2_with fail
                  refine (r_close R4.out hu hE rfl).mono ?_
                  rintro e w6 ⟨rfl, h6⟩
                  have R6 : Hid (RB w w6 Q b (n + 1) (clsS s t) (.slice (some ⟨gt, 0, none⟩) s.L.length ct) (.slice (some ⟨gl, 0, none⟩) s.L.length cl) s.L B 3 wh t N) := h6
                  clear h6 R4
                  have z0 := (ocell R6.out.box).1
                  have z2 := (ocell R6.out.box).2.2.1
                  have z3 := (ocell R6.out.box).2.2.2
                  clear z0 z2 z3
                  have CT : Hid (V64 ((cut t s.L).map Prod.fst) = [] ++ ((V64 (s.L.map Prod.fst)).drop 0).take (pos t s.L) ++ ((V64 (s.L.map Prod.fst)).drop (pos t s.L + 1)).take (s.L.length - (pos t s.L + 1))) := cut_V64 t s.L
                  have CV : Hid (VI ((cut t s.L).map Prod.snd) = [] ++ ((VI (s.L.map Prod.snd)).drop 0).take (pos t s.L) ++ ((VI (s.L.map Prod.snd)).drop (pos t s.L + 1)).take (s.L.length - (pos t s.L + 1))) := cut_VI t s.L
                  generalize pos t s.L = pp at *
                  have j1 : (pp : Int) < (s.L.length : Int) := by omega
                  have j2 : (pp : Int) ≤ (ct : Int) := by omega
                  have j3 : (pp : Int) ≤ (cl : Int) := by omega
                  have j4 : (pp : Int) + 1 ≤ (s.L.length : Int) := by omega
                  have j5 : (0 : Int) ≤ (pp : Int) + 1 := by omega
                  have j6 : ((pp : Int) + 1).toNat = pp + 1 := by omega
                  have j7 : IntKind.i64.wrap ((pp : Int) + 1) = (pp : Int) + 1 := wrap_succ hp1 (by omega)
                  obtain ⟨gta, egt, hgt⟩ := piece_addr (pp := pp) gt hct
                  obtain ⟨gla, egl, hgl⟩ := piece_addr (pp := pp) gl hcl
                  have Hgt : Hid (gta = ⟨gt, pp + 1, none⟩ ∨ s.L.length - (pp + 1) = 0) := hgt
                  have Hgl : Hid (gla = ⟨gl, pp + 1, none⟩ ∨ s.L.length - (pp + 1) = 0) := hgl
                  clear hgt hgl
                  go_wp2_with fail
                  refine wp_region_noPanic ?_
                  refine wp_region_held_drew (S := fun w' => Below w6.heap.size w6 w') (by kernel_rfl) (below_drawn 1) (fun hHeld => ?_)
                  have D : Hid (Below w6.heap.size w6 w6.drew) := hHeld
                  generalize w6.drew = we at *
                  refine wpAnyH_take (i := 1) (v := ?va13) (by simp; rfl) (by kernel_rfl) (by kernel_rfl) (by kernel_rfl) (fun _ _ _ h => h) (Or.inl ⟨by rfl, ?ya13⟩) hHeld ?ra13
                  case ya13 => intro w hSw; clear hSw; go_simp; with_reducible rfl
                  simp only [Act.put, List.setIfInBounds_toArray, List.set_cons_zero, List.set_cons_succ]
                  refine wpAnyH_take (i := 2) (v := ?va14) (by simp; rfl) (by kernel_rfl) (by kernel_rfl) (by kernel_rfl) (fun _ _ _ h => h) (Or.inl ⟨by rfl, ?ya14⟩) hHeld ?ra14
                  case ya14 => intro w hSw; clear hSw; go_simp; with_reducible rfl
                  simp only [Act.put, List.setIfInBounds_toArray, List.set_cons_zero, List.set_cons_succ]
                  refine wpAnyH_take (i := 3) (v := ?va15) (by simp; rfl) (by kernel_rfl) (by kernel_rfl) (by kernel_rfl) (fun _ _ _ h => h) (Or.inl ⟨by rfl, ?ya15⟩) hHeld ?ra15
                  case ya15 => intro w hSw; clear hSw; go_simp; with_reducible rfl
                  simp only [Act.put, List.setIfInBounds_toArray, List.set_cons_zero, List.set_cons_succ]
                  refine wpAnyH_take (i := 5) (v := ?va16) (by simp; rfl) (by kernel_rfl) (by kernel_rfl) (by kernel_rfl) (fun _ _ _ h => h) (Or.inl ⟨by rfl, ?ya16⟩) hHeld ?ra16
                  case ya16 => intro w hSw; clear hSw; go_simp; with_reducible rfl
                  simp only [Act.put, List.setIfInBounds_toArray, List.set_cons_zero, List.set_cons_succ]
                  refine wpAnyH_take (i := 6) (v := ?va17) (by simp; rfl) (by kernel_rfl) (by kernel_rfl) (by kernel_rfl) (fun _ _ _ h => h) (Or.inl ⟨by rfl, ?ya17⟩) hHeld ?ra17
                  case ya17 => intro w hSw; clear hSw; go_simp; with_reducible rfl
                  simp only [Act.put, List.setIfInBounds_toArray, List.set_cons_zero, List.set_cons_succ]
                  refine wpAnyH_take (i := 7) (v := ?va18) (by simp; rfl) (by kernel_rfl) (by kernel_rfl) (by kernel_rfl) (fun _ _ _ h => h) (Or.inl ⟨by rfl, ?ya18⟩) hHeld ?ra18
                  case ya18 => intro w hSw; clear hSw; go_simp; with_reducible rfl
                  simp only [Act.put, List.setIfInBounds_toArray, List.set_cons_zero, List.set_cons_succ]
                  refine wpAnyH_take (i := 8) (v := ?va19) (by simp; rfl) (by kernel_rfl) (by kernel_rfl) (by kernel_rfl) (fun _ _ _ h => h) (Or.inl ⟨by rfl, ?ya19⟩) hHeld ?ra19
                  case ya19 => intro w hSw; clear hSw; go_simp; with_reducible rfl
                  simp only [Act.put, List.setIfInBounds_toArray, List.set_cons_zero, List.set_cons_succ]
                  refine wpAnyH_ready (rs := [0]) (by kernel_rfl) (by simp) ?_
                  refine AllReadyH.cons (by simp; rfl) (fun Kc hKc => ?_) AllReadyH.nil
                  go_simp
                  have F1 : Hid (FR w6 (we.alloc (.cells #[] 30)) w.heap.size 30 1 (.slice (some ⟨we.heap.size, 0, none⟩) 0 0) 0 []) := FR.empty 30 1 D.out R6.out.own.below.size
                  refine hKc.out _ _ F1.out.below (fun hHeld => ?_)
                  clear hKc Kc
                  generalize we.alloc (.cells #[] 30) = wea at *
                  generalize we.heap.size = weg at *
                  refine wpAnyH_ready (rs := [4]) (by kernel_rfl) (by simp) ?_
                  refine AllReadyH.cons (by simp; rfl) (fun Kc hKc => ?_) AllReadyH.nil
                  refine step_own rfl (.tmp 184) (.tmp 187) el28 rfl rfl F1.out.own ⟨gt, 0, none⟩ pp ct (((V64 (s.L.map Prod.fst)).drop 0).take pp) rfl (len_piece (len_V64 _) (by omega)) (own_piece (own_later R6.out.tl.tk F1.out.below) rfl 0 pp) (ones_piece (ones_u64 _) _ _) (by omega) (Nat.le_trans R6.out.own.below.size F1.out.below.size) ?_
                  intro v1 web ho hk hv
                  have F2 : Hid (FR w6 web w.heap.size 30 1 v1 (0 + pp) ([] ++ ((V64 (s.L.map Prod.fst)).drop 0).take pp)) := F1.out.app ho hk hv
                  clear ho hk hv F1
                  refine hKc.out _ _ F2.out.below (fun hHeld => ?_)
                  clear hKc Kc
                  simp only [Act.put, List.setIfInBounds_toArray, List.set_cons_zero, List.set_cons_succ]
                  refine wpAnyH_ready (rs := [9]) (by kernel_rfl) (by simp) ?_
                  refine AllReadyH.cons (by simp; rfl) (fun Kc hKc => ?_) AllReadyH.nil
                  refine step_own rfl (.tmp 188) (.tmp 192) el28 rfl rfl F2.out.own gta (s.L.length - (pp + 1)) (ct - (pp + 1)) (((V64 (s.L.map Prod.fst)).drop (pp + 1)).take (s.L.length - (pp + 1))) rfl (len_piece (len_V64 _) (by omega)) (own_piece2 (own_later R6.out.tl.tk F2.out.below) rfl Hgt.out) (ones_piece (ones_u64 _) _ _) (by omega) (Nat.le_trans R6.out.own.below.size F2.out.below.size) ?_
                  intro v2 wec ho hk hv
                  have F3 : Hid (FR w6 wec w.heap.size 30 1 v2 (0 + pp + (s.L.length - (pp + 1))) ([] ++ ((V64 (s.L.map Prod.fst)).drop 0).take pp ++ ((V64 (s.L.map Prod.fst)).drop (pp + 1)).take (s.L.length - (pp + 1)))) := F2.out.app ho hk hv
                  clear ho hk hv F2
                  refine hKc.out _ _ F3.out.below (fun hHeld => ?_)
                  clear hKc Kc
                  simp only [Act.put, List.setIfInBounds_toArray, List.set_cons_zero, List.set_cons_succ]
                  refine wpAnyH_take (i := 10) (v := ?va20) (by simp; rfl) (by kernel_rfl) (by kernel_rfl) (by kernel_rfl) (fun _ _ _ h => h) (Or.inl ⟨by rfl, ?ya20⟩) hHeld ?ra20
                  case ya20 => intro w hSw; clear hSw; go_simp; with_reducible rfl
                  simp only [Act.put, List.setIfInBounds_toArray, List.set_cons_zero, List.set_cons_succ]
                  clear hHeld
                  refine wpAnyH_done (by kernel_rfl) (NoPanic.normal ?_) _
                  have R7 : Hid (RB w wec Q b (n + 1) (clsS s t) (.slice (some ⟨gt, 0, none⟩) s.L.length ct) (.slice (some ⟨gl, 0, none⟩) s.L.length cl) s.L B 3 wh t N) := R6.out.later F3.out.below
                  have FT : Hid (wec.ownsRow w.heap.size 30 1 v2 (cut t s.L).length (V64 ((cut t s.L).map Prod.fst))) := by rw [CT.out, CLH.out.2]; exact F3.out.own
                  clear F3 R6 D CT
                  generalize v2 = tv2 at *
                  go_wp2_with fail
                  refine wp_region_noPanic ?_
                  refine wp_region_held_drew (S := fun w' => Below wec.heap.size wec w') (by kernel_rfl) (below_drawn 1) (fun hHeld => ?_)
                  have D : Hid (Below wec.heap.size wec wec.drew) := hHeld
                  generalize wec.drew = wf at *
                  refine wpAnyH_take (i := 1) (v := ?va21) (by simp; rfl) (by kernel_rfl) (by kernel_rfl) (by kernel_rfl) (fun _ _ _ h => h) (Or.inl ⟨by rfl, ?ya21⟩) hHeld ?ra21
                  case ya21 => intro w hSw; clear hSw; go_simp; with_reducible rfl
                  simp only [Act.put, List.setIfInBounds_toArray, List.set_cons_zero, List.set_cons_succ]
                  refine wpAnyH_take (i := 2) (v := ?va22) (by simp; rfl) (by kernel_rfl) (by kernel_rfl) (by kernel_rfl) (fun _ _ _ h => h) (Or.inl ⟨by rfl, ?ya22⟩) hHeld ?ra22
                  case ya22 => intro w hSw; clear hSw; go_simp; with_reducible rfl
                  simp only [Act.put, List.setIfInBounds_toArray, List.set_cons_zero, List.set_cons_succ]
                  refine wpAnyH_take (i := 3) (v := ?va23) (by simp; rfl) (by kernel_rfl) (by kernel_rfl) (by kernel_rfl) (fun _ _ _ h => h) (Or.inl ⟨by rfl, ?ya23⟩) hHeld ?ra23
                  case ya23 => intro w hSw; clear hSw; go_simp; with_reducible rfl
                  simp only [Act.put, List.setIfInBounds_toArray, List.set_cons_zero, List.set_cons_succ]
                  refine wpAnyH_take (i := 5) (v := ?va24) (by simp; rfl) (by kernel_rfl) (by kernel_rfl) (by kernel_rfl) (fun _ _ _ h => h) (Or.inl ⟨by rfl, ?ya24⟩) hHeld ?ra24
                  case ya24 => intro w hSw; clear hSw; go_simp; with_reducible rfl
                  simp only [Act.put, List.setIfInBounds_toArray, List.set_cons_zero, List.set_cons_succ]
                  refine wpAnyH_take (i := 6) (v := ?va25) (by simp; rfl) (by kernel_rfl) (by kernel_rfl) (by kernel_rfl) (fun _ _ _ h => h) (Or.inl ⟨by rfl, ?ya25⟩) hHeld ?ra25
                  case ya25 => intro w hSw; clear hSw; go_simp; with_reducible rfl
                  simp only [Act.put, List.setIfInBounds_toArray, List.set_cons_zero, List.set_cons_succ]
                  refine wpAnyH_take (i := 7) (v := ?va26) (by simp; rfl) (by kernel_rfl) (by kernel_rfl) (by kernel_rfl) (fun _ _ _ h => h) (Or.inl ⟨by rfl, ?ya26⟩) hHeld ?ra26
                  case ya26 => intro w hSw; clear hSw; go_simp; with_reducible rfl
                  simp only [Act.put, List.setIfInBounds_toArray, List.set_cons_zero, List.set_cons_succ]
                  refine wpAnyH_take (i := 8) (v := ?va27) (by simp; rfl) (by kernel_rfl) (by kernel_rfl) (by kernel_rfl) (fun _ _ _ h => h) (Or.inl ⟨by rfl, ?ya27⟩) hHeld ?ra27
                  case ya27 => intro w hSw; clear hSw; go_simp; with_reducible rfl
                  simp only [Act.put, List.setIfInBounds_toArray, List.set_cons_zero, List.set_cons_succ]
                  refine wpAnyH_ready (rs := [0]) (by kernel_rfl) (by simp) ?_
                  refine AllReadyH.cons (by simp; rfl) (fun Kc hKc => ?_) AllReadyH.nil
                  go_simp
                  have F1 : Hid (FR wec (wf.alloc (.cells #[] 3)) w.heap.size 3 1 (.slice (some ⟨wf.heap.size, 0, none⟩) 0 0) 0 []) := FR.empty 3 1 D.out R7.out.own.below.size
                  refine hKc.out _ _ F1.out.below (fun hHeld => ?_)
                  clear hKc Kc
                  generalize wf.alloc (.cells #[] 3) = wfa at *
                  generalize wf.heap.size = wfg at *
                  refine wpAnyH_ready (rs := [4]) (by kernel_rfl) (by simp) ?_
                  refine AllReadyH.cons (by simp; rfl) (fun Kc hKc => ?_) AllReadyH.nil
                  refine step_own rfl (.tmp 194) (.tmp 197) el29 rfl rfl F1.out.own ⟨gl, 0, none⟩ pp cl (((VI (s.L.map Prod.snd)).drop 0).take pp) rfl (len_piece (len_VI _) (by omega)) (own_piece (own_later R7.out.tl.lf F1.out.below) rfl 0 pp) (ones_piece (ones_i64 _) _ _) (by omega) (Nat.le_trans R7.out.own.below.size F1.out.below.size) ?_
                  intro v1 wfb ho hk hv
                  have F2 : Hid (FR wec wfb w.heap.size 3 1 v1 (0 + pp) ([] ++ ((VI (s.L.map Prod.snd)).drop 0).take pp)) := F1.out.app ho hk hv
                  clear ho hk hv F1
                  refine hKc.out _ _ F2.out.below (fun hHeld => ?_)
                  clear hKc Kc
                  simp only [Act.put, List.setIfInBounds_toArray, List.set_cons_zero, List.set_cons_succ]
                  refine wpAnyH_ready (rs := [9]) (by kernel_rfl) (by simp) ?_
                  refine AllReadyH.cons (by simp; rfl) (fun Kc hKc => ?_) AllReadyH.nil
                  refine step_own rfl (.tmp 198) (.tmp 202) el29 rfl rfl F2.out.own gla (s.L.length - (pp + 1)) (cl - (pp + 1)) (((VI (s.L.map Prod.snd)).drop (pp + 1)).take (s.L.length - (pp + 1))) rfl (len_piece (len_VI _) (by omega)) (own_piece2 (own_later R7.out.tl.lf F2.out.below) rfl Hgl.out) (ones_piece (ones_i64 _) _ _) (by omega) (Nat.le_trans R7.out.own.below.size F2.out.below.size) ?_
                  intro v2 wfc ho hk hv
                  have F3 : Hid (FR wec wfc w.heap.size 3 1 v2 (0 + pp + (s.L.length - (pp + 1))) ([] ++ ((VI (s.L.map Prod.snd)).drop 0).take pp ++ ((VI (s.L.map Prod.snd)).drop (pp + 1)).take (s.L.length - (pp + 1)))) := F2.out.app ho hk hv
                  clear ho hk hv F2
                  refine hKc.out _ _ F3.out.below (fun hHeld => ?_)
                  clear hKc Kc
                  simp only [Act.put, List.setIfInBounds_toArray, List.set_cons_zero, List.set_cons_succ]
                  refine wpAnyH_take (i := 10) (v := ?va28) (by simp; rfl) (by kernel_rfl) (by kernel_rfl) (by kernel_rfl) (fun _ _ _ h => h) (Or.inl ⟨by rfl, ?ya28⟩) hHeld ?ra28
                  case ya28 => intro w hSw; clear hSw; go_simp; with_reducible rfl
                  simp only [Act.put, List.setIfInBounds_toArray, List.set_cons_zero, List.set_cons_succ]
                  clear hHeld
                  refine wpAnyH_done (by kernel_rfl) (NoPanic.normal ?_) _
                  have FL : Hid (wfc.ownsRow w.heap.size 3 1 v2 (cut t s.L).length (VI ((cut t s.L).map Prod.snd))) := by rw [CV.out, CLH.out.2]; exact F3.out.own
                  have FT2 : Hid (wfc.ownsRow w.heap.size 30 1 tv2 (cut t s.L).length (V64 ((cut t s.L).map Prod.fst))) := own_later FT.out F3.out.below
                  have R8 : Hid (Own w wfc Q b (n + 1) (clsS s t)) := R7.out.own.later F3.out.below
                  clear F3 R7 FT CV D
                  go_wp2_with fail
                  go_roundw
                  case rel => exact ⟨k + 1, n + 1, clsS s t, by omega, by omega, by omega, by show (cut t s.L).length ≤ k + 1; rw [CLH.out.2]; omega, rfl, by go_num, HC.out, R8.out, FT2.out, FL.out⟩
                  case measure => simp [intOf]; omega
            have b3 : (kd == 3) = false := by rw [beq_eq_false_iff_ne]; exact k3
            clear k3
            by_cases k4 : kd = 4
            · as_aux_lemma =>
                subst k4
                generalize atv t s.L s.L.length = av
                by_cases hN : 0 ≤ N ∧ N ≤ s.used
                · have hE : freE s N = 0 ∧ freS s N = { s with used := s.used - N } := ⟨if_pos hN, if_pos hN⟩
                  obtain ⟨hN1, hN2⟩ := hN
                  go_wp2_with fail
                  refine (r_free R4.out hE.1 hE.2).mono ?_
                  rintro e w6 ⟨rfl, h6⟩
                  have R6 : Hid (RB w w6 Q b (n + 1) { s with used := s.used - N } (.slice pt s.L.length ct) (.slice pl s.L.length cl) s.L B 4 wh t N) := h6
                  clear h6 R4
                  have z0 := (ocell R6.out.box).1
                  have z2 := (ocell R6.out.box).2.2.1
                  have z3 := (ocell R6.out.box).2.2.2
                  go_wp2_with fail
                  go_roundw
                  case rel => exact ⟨k + 1, n + 1, { s with used := s.used - N }, by omega, by omega, by omega, by show s.L.length ≤ k + 1; omega, rfl, by go_num, HC.out, R6.out.own, R6.out.tl⟩
                  case measure => simp [intOf]; omega
                · have hE : freE s N = 2 ∧ freS s N = s := ⟨if_neg hN, if_neg hN⟩
                  by_cases hN1 : N < 0
                  · go_wp2_with fail
                    refine (r_free R4.out hE.1 hE.2).mono ?_
                    rintro e w6 ⟨rfl, h6⟩
                    have R6 : Hid (RB w w6 Q b (n + 1) s (.slice pt s.L.length ct) (.slice pl s.L.length cl) s.L B 4 wh t N) := h6
                    clear h6 R4
                    have z0 := (ocell R6.out.box).1
                    have z2 := (ocell R6.out.box).2.2.1
                    have z3 := (ocell R6.out.box).2.2.2
                    go_wp2_with fail
                    go_roundw
                    case rel => exact ⟨k + 1, n + 1, s, by omega, by omega, by omega, by omega, rfl, by go_num, HC.out, R6.out.own, R6.out.tl⟩
                    case measure => simp [intOf]; omega
                  · have hN2 : s.used < N := by omega
                    have hN3 : 0 ≤ N := by omega
                    clear hN hN1
                    go_wp2_with fail
                    refine (r_free R4.out hE.1 hE.2).mono ?_
                    rintro e w6 ⟨rfl, h6⟩
                    have R6 : Hid (RB w w6 Q b (n + 1) s (.slice pt s.L.length ct) (.slice pl s.L.length cl) s.L B 4 wh t N) := h6
                    clear h6 R4
                    have z0 := (ocell R6.out.box).1
                    have z2 := (ocell R6.out.box).2.2.1
                    have z3 := (ocell R6.out.box).2.2.2
                    go_wp2_with fail
                    go_roundw
                    case rel => exact ⟨k + 1, n + 1, s, by omega, by omega, by omega, by omega, rfl, by go_num, HC.out, R6.out.own, R6.out.tl⟩
                    case measure => simp [intOf]; omega
            have b4 : (kd == 4) = false := by rw [beq_eq_false_iff_ne]; exact k4
            clear k4
            generalize atv t s.L s.L.length = av
            go_wp2_with fail
            go_roundw
            case rel => exact ⟨k + 1, n, s, by omega, by omega, by omega, by omega, rfl, by go_num, HC.out, R4.out.own, R4.out.tl⟩
            case measure => simp [intOf]; omega

      · have i2 : ¬ (k : Int) < 150 := by omega
        have i1 : (k : Int) < (len : Int) := by omega
        go_wp2
        go_ret
        exact ⟨rfl, S2.out.2.1.below⟩
    · have i1 : ¬ (k : Int) < (len : Int) := by omega
      go_wp2
      go_ret
      exact ⟨rfl, S2.out.2.1.below⟩
end Go.Proofs.Ytjkmeljefbpbgaa
