/-
  Layer 14: LockHands.
-/
import Derived.Test.YtkffmglcllhbmaaMf
namespace Go.Proofs.Ytkffmglcllhbmaa
open Go.RowKit

open Go.Shelf
theorem rdy_take {L : List En} {t : Int} (h : rdyS L t = true) : takE L t = 0 := by
  refine takE_zero.2 ?_
  have h1 : (ent L t).nxB = true := by unfold rdyS at h; simp at h; exact h.1
  refine ⟨?_, h1, h⟩
  cases hi : isIn L t with
  | true => rfl
  | false => rw [(out_nx hi).1] at h1; cases h1
theorem mod_at (t N b : Nat) (h : b < N) : (t * N + b) % N = b := Nat.mul_add_mod_of_lt h
theorem heldd_len {a : Lk} (h : Ok a) (t : Int) : (ent a.L t).held.length = (ent a.L t).d := by
  unfold En.held
  rw [List.length_take]
  exact Nat.min_eq_left (ent_don h t)
set_option maxRecDepth 100000 in
set_option maxHeartbeats 16000000 in
theorem lockHands_any (w : World) (n0 : Int) {p : Option Addr} {m c : Nat} {xs : List Int} (hU : UIn w p m xs) (hx : ∀ x ∈ xs, U64 x) (hm : m ≤ 17592186044416) : Calls Try.prog 3 #[.int .i64 n0, .slice p m c] w fun e w' => e = .returned (.bool true) ∧ Below w.heap.size w w' := by
  obtain ⟨iQ, hiQ, z0Q, z1Q, z2Q⟩ := info_parts info26
  obtain ⟨iH, hiH, z0H, z1H, z2H⟩ := info_parts B.info3
  have hml : 17592186044416 ≤ maxLen := by decide
  have HU : Hid (UIn w p m xs ∧ ∀ x ∈ xs, U64 x) := ⟨hU, hx⟩
  clear hU hx
  go_enter Try.func3, Try.ntmps3
  go_wp2_with fail
  refine (blocksOf_any n0 w).mono ?_
  rintro e w' ⟨N, rfl, hN, rfl⟩
  go_wp2_with fail
  refine (crowd_any w N hN.1 hN.2 HU.out.1 HU.out.2 hm).mono ?_
  rintro e w1 ⟨Q, pw, cw, W, rfl, h1, h2, hW⟩
  have H1 : Hid (∃ a n, n ≤ 10 ∧ Own w w1 Q n a (fun _ => False)) := ⟨_, _, Nat.le_refl _, h1⟩
  clear h1 h2 HU
  generalize W.length = K at *
  clear W
  go_wp2_with fail
  refine (awake_any w1).mono ?_
  rintro e w2 ⟨rfl, hb2⟩
  have H2 : Hid (∃ a n, n ≤ 10 ∧ Own w w2 Q n a (fun _ => False)) := by obtain ⟨a, n, h1, h2⟩ := H1.out; exact ⟨a, n, h1, h2.later hb2⟩
  clear H1 hb2
  go_wp2_with fail
  go_loopw [39] (fun i wr => ∃ k : Nat, k ≤ K ∧ i = .int .i64 k ∧ Hid (∃ a n, n ≤ 10 + 12 * k ∧ Own w wr Q n a (fun _ => False))) (fun i _ => K - (intOf i).toNat)
  case atStart => exact ⟨0, Nat.zero_le _, rfl, H2.out⟩
  case round =>
    clear H2
    obtain ⟨k, hk, rfl, HO⟩ := hrel
    by_cases hlt : k < K
    · have i1 : (k : Int) < (K : Int) := by omega
      obtain ⟨wo, hwo⟩ : ∃ wo, wo = wr := ⟨_, rfl⟩
      subst hwo
      go_wp2_with fail
      go_loopw [9] (fun i wr => ∃ d : Nat, d ≤ 12 ∧ i = .int .i64 d ∧ Hid (∃ a n, n ≤ 10 + 12 * k + d ∧ Own w wr Q n a (fun _ => False))) (fun i _ => 12 - (intOf i).toNat)
      case atStart => exact ⟨0, by decide, rfl, HO.out⟩
      case round =>
        clear HO
        obtain ⟨d, hd, rfl, HO⟩ := hrel
        by_cases hd2 : d < 12
        · have j1 : (d : Int) < 12 := by omega
          obtain ⟨a, n, hn, ho⟩ := HO.out
          cases hr : rdyS a.L ((k : Int) + 1) with
          | true =>
            have HR : Hid (rdyS a.L ((k : Int) + 1) = true) := hr
            have HA : Hid (Own w wr Q n a (fun _ => False)) := ho
            have hn3 : n ≤ 10000 := by omega
            have hn4 : n < 10000 := by omega
            clear hr ho HO
            have hw1 : wrap64 ((k : Int) + 1) = (k : Int) + 1 := wrS1 (Nat.le_trans hk hW)
            have hw2 : IntKind.u64.wrap ((k : Int) + 1) = (k : Int) + 1 := wrS2 (Nat.le_trans hk hW)
            have hw3 : IntKind.i64.wrap ((k : Int) + 1) = (k : Int) + 1 := wrS3 (Nat.le_trans hk hW)
            go_wp2_with fail
            refine (o_ready HA.out hn3 (u64S (Nat.le_trans hk hW)) (y := true) HR.out).mono ?_
            rintro e w3 ⟨rfl, h3, -⟩
            have H3 : Hid (Own w w3 Q n a (fun _ => False)) := h3
            clear h3 HA
            go_wp2_with fail
            refine (o_take H3.out hn4 (t := (k : Int) + 1) (u64S (Nat.le_trans hk hW)) (x := takN a.L ((k : Int) + 1)) (E := 0) (a' := takS a ((k : Int) + 1)) rfl (rdy_take HR.out) rfl).mono ?_
            rintro e w4 ⟨rfl, h4, -⟩
            clear hw1 hw2 hw3
            have HN : Hid (∃ a n, n ≤ 10 + 12 * k + (d + 1) ∧ Own w w4 Q n a (fun _ => False)) := ⟨_, _, by omega, h4⟩
            clear h4 H3 HR
            go_wp2_with (go_at_call 13; refine (num_is _ _).mono ?_; rintro e w' ⟨rfl, rfl⟩)
            go_roundw
            case rel => exact ⟨d + 1, by omega, by go_num, HN.out⟩
            case measure => simp [intOf]; omega
          | false =>
            have HR : Hid (rdyS a.L ((k : Int) + 1) = false) := hr
            have HA : Hid (Own w wr Q n a (fun _ => False)) := ho
            have hn3 : n ≤ 10000 := by omega
            clear hr ho HO
            have hw1 : wrap64 ((k : Int) + 1) = (k : Int) + 1 := wrS1 (Nat.le_trans hk hW)
            have hw2 : IntKind.u64.wrap ((k : Int) + 1) = (k : Int) + 1 := wrS2 (Nat.le_trans hk hW)
            have hw3 : IntKind.i64.wrap ((k : Int) + 1) = (k : Int) + 1 := wrS3 (Nat.le_trans hk hW)
            go_wp2_with fail
            refine (o_ready HA.out hn3 (u64S (Nat.le_trans hk hW)) (y := false) HR.out).mono ?_
            rintro e w3 ⟨rfl, h3, -⟩
            clear hw1 hw2 hw3
            have HN : Hid (∃ a n, n ≤ 10 + 12 * (k + 1) ∧ Own w w3 Q n a (fun _ => False)) := ⟨_, _, by omega, h3⟩
            clear h3 HA
            go_wp2_with fail
            go_roundw
            case rel => exact ⟨k + 1, by omega, by go_num, HN.out⟩
            case measure => simp [intOf]; omega
        · have j1 : ¬ (d : Int) < 12 := by omega
          have HN : Hid (∃ a n, n ≤ 10 + 12 * (k + 1) ∧ Own w wr Q n a (fun _ => False)) := by obtain ⟨a, n, h1, h2⟩ := HO.out; exact ⟨a, n, by omega, h2⟩
          clear HO
          go_wp2_with fail
          go_roundw
          case rel => exact ⟨k + 1, by omega, by go_num, HN.out⟩
          case measure => simp [intOf]; omega
    · have i1 : ¬ (k : Int) < (K : Int) := by omega
      obtain ⟨a, n, hn, ho⟩ := HO.out
      obtain ⟨w3, hw3⟩ : ∃ w3, w3 = wr := ⟨_, rfl⟩
      subst hw3
      have HA : Hid (Own w w3 Q n a (fun _ => False)) := ho
      have hn2 : n ≤ 130 := by omega
      obtain ⟨fq, hfq⟩ : ∃ fq : Nat → List Int, fq = fun i => qS a.L ((i % N : Nat) : Int) := ⟨_, rfl⟩
      obtain ⟨fh, hfh⟩ : ∃ fh : Nat → List Int, fh = fun i => (ent a.L (((i % K : Nat) : Int) + 1)).held := ⟨_, rfl⟩
      have HFQ : Hid (∀ i, fq i = qS a.L ((i % N : Nat) : Int)) := fun i => by rw [hfq]
      have HFH : Hid (∀ i, fh i = (ent a.L (((i % K : Nat) : Int) + 1)).held) := fun i => by rw [hfh]
      have HQL : Hid (∀ b, (qS a.L b).length ≤ 130) := fun b => Nat.le_trans (ho.qlen b) hn2
      have HHL : Hid (∀ t, (ent a.L t).held.length ≤ 64) := fun t => by rw [heldd_len ho.ok]; exact ent_d64 ho.ok t
      clear ho HO hfq hfh
      go_wp2_with fail
      go_loopw [12, 13, 14, 15, 16] (fun x1 x2 x3 x4 i wr => ∃ t : Nat, t ≤ 2 ∧ i = .int .i64 t ∧ ∃ (q1 : Option Addr) (c1 : Nat) (q2 : Option Addr) (c2 : Nat) (q3 : Option Addr) (c3 : Nat) (q4 : Option Addr) (c4 A1 B1 : Nat), x1 = .slice q1 A1 c1 ∧ x2 = .slice q3 B1 c3 ∧ x3 = .slice q2 A1 c2 ∧ x4 = .slice q4 B1 c4 ∧ Hid (A1 = t * N ∧ B1 = t * K ∧ Mk w3 wr fq fh (.slice q1 A1 c1) A1 (.slice q2 A1 c2) A1 (.slice q3 B1 c3) B1 (.slice q4 B1 c4) B1)) (fun _ _ _ _ i _ => 2 - (intOf i).toNat)
      case atStart => exact ⟨0, by decide, rfl, none, 0, none, 0, none, 0, none, 0, 0, 0, rfl, rfl, rfl, rfl, by simp, by simp, Mk.start w3 fq fh⟩
      case round =>
        obtain ⟨t, ht, rfl, q1, c1, q2, c2, q3, c3, q4, c4, A1, B1, rfl, rfl, rfl, rfl, HM⟩ := hrel
        by_cases ht2 : t < 2
        · have i2 : (t : Int) < 2 := by omega
          obtain ⟨AA, hAA⟩ : ∃ x, x = A1 := ⟨_, rfl⟩
          have HAB : Hid (AA = t * N ∧ B1 = t * K) := ⟨hAA.trans HM.out.1, HM.out.2.1⟩
          have hAl : AA ≤ 20 := by have h1 := HAB.out.1; have := Nat.mul_le_mul (show t ≤ 2 by omega) hN.2; omega
          have hBl : B1 ≤ 20 := by have h1 := HAB.out.2; have := Nat.mul_le_mul (show t ≤ 2 by omega) hW; omega
          have HM0 : Hid (Mk w3 wr fq fh (.slice q1 A1 c1) A1 (.slice q2 A1 c2) A1 (.slice q3 B1 c3) B1 (.slice q4 B1 c4) B1) := HM.out.2.2
          rw [← hAA] at HM0 ⊢
          clear HM hAA
          go_wp2_with fail
          go_loopw [12, 14, 17] (fun x1 x3 i wr => ∃ b : Nat, b ≤ N ∧ i = .int .i64 b ∧ ∃ (q1 : Option Addr) (c1 : Nat) (q2 : Option Addr) (c2 A1 : Nat), x1 = .slice q1 A1 c1 ∧ x3 = .slice q2 A1 c2 ∧ Hid (A1 = AA + b ∧ Mk w3 wr fq fh (.slice q1 A1 c1) A1 (.slice q2 A1 c2) A1 (.slice q3 B1 c3) B1 (.slice q4 B1 c4) B1)) (fun _ _ i _ => N - (intOf i).toNat)
          case atStart => exact ⟨0, Nat.zero_le _, rfl, _, _, _, _, _, rfl, rfl, rfl, HM0.out⟩
          case round =>
            clear HM0
            obtain ⟨b, hb, rfl, q1, c1, q2, c2, A1, rfl, rfl, HM1⟩ := hrel
            have HA1 : Hid (A1 = AA + b) := HM1.out.1
            have hA1l : A1 ≤ 40 := by have := HM1.out.1; omega
            have HM : Hid (Mk w3 wr fq fh (.slice q1 A1 c1) A1 (.slice q2 A1 c2) A1 (.slice q3 B1 c3) B1 (.slice q4 B1 c4) B1) := HM1.out.2
            clear HM1
            by_cases hlt2 : b < N
            · have i3 : (b : Int) < (N : Int) := by omega
              obtain ⟨l, HL⟩ : ∃ l, Hid (qS a.L (b : Int) = l) := ⟨_, rfl⟩
              have hll : l.length ≤ 130 := by have := HQL.out (b : Int); rwa [HL.out] at this
              have HF : Hid (fq A1 = l) := by show _ = _; rw [HFQ.out, HA1.out, HAB.out.1, mod_at _ _ _ hlt2]; exact HL.out
              go_wp2_with fail
              refine (o_queue (HA.out.later HM.out.below) (by omega) (b : Int) HL.out).mono ?_
              rintro e w5 ⟨v5, rfl, hm5, -⟩
              obtain ⟨q5, c5, rfl, -, hc5, hp5⟩ := hm5.read
              have H5 : Hid (w5.ownsRow wr.heap.size 30 1 (.slice q5 l.length c5) l.length (V64 l) ∧ Below wr.heap.size wr w5) := ⟨hm5.own, hm5.below⟩
              clear hm5
              obtain ⟨q1', c1', w6, hrun, HM6, HX6⟩ : ∃ q c w6, Hid ((Builtin.append_ #[35, 35] 35 #[.slice q1 A1 c1, .slice (some ⟨w5.heap.size, 0, none⟩) 1 1]).run Try.prog (w5.alloc (.cells #[.slice q5 l.length c5] 22)) = .ok (.slice q (A1 + 1) c) w6) ∧ Hid (Mk w3 w6 fq fh (.slice q (A1 + 1) c) (A1 + 1) (.slice q2 A1 c2) A1 (.slice q3 B1 c3) B1 (.slice q4 B1 c4) B1) ∧ Hid (w6.ownsRow wr.heap.size 30 1 (.slice q5 l.length c5) l.length (V64 l)) := by
                have hm := H5.out
                rw [← HF.out] at hm
                obtain ⟨v', w6, hr, h6, hx6⟩ := HM.out.pushQ1 hm.2 hm.1 rfl (by omega)
                obtain ⟨q, c, e⟩ := h6.shape.1
                subst e
                rw [HF.out] at hr hx6
                exact ⟨q, c, w6, hr, h6, hx6⟩
              clear H5 HM
              have HLN : Hid (([] ++ V64 l : List Value).length = l.length) := by show _ = _; simp
              go_wp2_with (at_builtin; first | refine wpList_app_is rfl (.tmp 77) (.tmp 79) 35 rfl (.slice q1 A1 c1) (.slice (some ⟨w5.heap.size, 0, none⟩) 1 1) (.slice q1' (A1 + 1) c1') rfl rfl hrun.out ?_ | refine Hid.out ?_)
              clear hrun
              unfold Hid
              refine wpList_app rfl (.tmp 82) (.tmp 83) 22 rfl 30 iQ (.int .u64 0) 8 Try.underlying22 hiQ z0Q z1Q z2Q rfl w6 (below_alloc _ _) (.slice (some ⟨w6.heap.size, 0, none⟩) 0 0) [] rfl (lit_own w6 w6.heap.size (Nat.le_refl _) [] 30 (by decide)) q5 l.length c5 (V64 l) rfl hp5 hc5 (by simp) (own_news (own_later HX6.out (below_alloc _ _))) (by intro u hu; obtain ⟨z, -, rfl⟩ := List.mem_map.1 hu; rfl) (by simp only [List.length_nil]; omega) (by simp only [List.length_nil]; omega) ?_
              intro q7 c7 w7 o7 b7 _hk7
              rw [HLN.out] at o7
              rw [HLN.out]
              go_wp2_with (at_builtin; refine Hid.out ?_)
              unfold Hid
              obtain ⟨q2', c2', w8, hrun, HM8⟩ : ∃ q c w8, Hid ((Builtin.append_ #[35, 35] 35 #[.slice q2 A1 c2, .slice (some ⟨w7.heap.size, 0, none⟩) 1 1]).run Try.prog (w7.alloc (.cells #[.slice q7 l.length c7] 22)) = .ok (.slice q (A1 + 1) c) w8) ∧ Hid (Mk w3 w8 fq fh (.slice q1' (A1 + 1) c1') (A1 + 1) (.slice q (A1 + 1) c) (A1 + 1) (.slice q3 B1 c3) B1 (.slice q4 B1 c4) B1) := by
                have o7' : w7.ownsRow w6.heap.size 30 1 (.slice q7 l.length c7) l.length (V64 l) := o7
                rw [← HF.out] at o7'
                obtain ⟨v', w8, hr, h8⟩ := HM6.out.pushQ2 b7 o7' rfl (by omega)
                obtain ⟨q, c, e⟩ := h8.shape.2.1
                subst e
                rw [HF.out] at hr
                exact ⟨q, c, w8, hr, h8⟩
              clear o7 b7 HM6 HX6 HLN
              refine wpList_app_is rfl (.tmp 81) (.tmp 85) 35 rfl (.slice q2 A1 c2) (.slice (some ⟨w7.heap.size, 0, none⟩) 1 1) (.slice q2' (A1 + 1) c2') rfl rfl hrun.out ?_
              clear hrun
              go_wp2_with fail

              go_roundw
              case rel => exact ⟨b + 1, by omega, by go_num, _, _, _, _, _, rfl, rfl, by have := HA1.out; omega, HM8.out⟩
              case measure => simp [intOf]; omega
            · have i3 : ¬ (b : Int) < (N : Int) := by omega
              have HAC : Hid (A1 = (t + 1) * N ∧ B1 = t * K) := ⟨by have h1 := HA1.out; have h2 := HAB.out.1; rw [Nat.succ_mul]; omega, HAB.out.2⟩
              have hAl2 : A1 ≤ 40 := by omega
              clear HAB HA1 hAl
              obtain ⟨BB, hBB⟩ : ∃ x, x = B1 := ⟨_, rfl⟩
              have HAB : Hid (A1 = (t + 1) * N ∧ BB = t * K) := ⟨HAC.out.1, hBB.trans HAC.out.2⟩
              clear HAC
              have HM0 := HM
              rw [← hBB] at HM0 hBl ⊢
              clear HM hBB
              go_wp2_with fail
              go_loopw [13, 15, 89] (fun x2 x4 i wr => ∃ b : Nat, b ≤ K ∧ i = .int .i64 b ∧ ∃ (q3 : Option Addr) (c3 : Nat) (q4 : Option Addr) (c4 B1 : Nat), x2 = .slice q3 B1 c3 ∧ x4 = .slice q4 B1 c4 ∧ Hid (B1 = BB + b ∧ Mk w3 wr fq fh (.slice q1 A1 c1) A1 (.slice q2 A1 c2) A1 (.slice q3 B1 c3) B1 (.slice q4 B1 c4) B1)) (fun _ _ i _ => K - (intOf i).toNat)
              case atStart => exact ⟨0, Nat.zero_le _, rfl, _, _, _, _, _, rfl, rfl, rfl, HM0.out⟩
              case round =>
                clear HM0
                obtain ⟨b, hb, rfl, q3, c3, q4, c4, B1, rfl, rfl, HM1⟩ := hrel
                have HB1 : Hid (B1 = BB + b) := HM1.out.1
                have hB1l : B1 ≤ 40 := by have := HM1.out.1; omega
                have HM : Hid (Mk w3 wr fq fh (.slice q1 A1 c1) A1 (.slice q2 A1 c2) A1 (.slice q3 B1 c3) B1 (.slice q4 B1 c4) B1) := HM1.out.2
                clear HM1
                by_cases hlt2 : b < K
                · have i3 : (b : Int) < (K : Int) := by omega
                  obtain ⟨l, HL⟩ : ∃ l, Hid ((ent a.L ((b : Int) + 1)).held = l) := ⟨_, rfl⟩
                  have hll : l.length ≤ 64 := by have := HHL.out ((b : Int) + 1); rwa [HL.out] at this
                  have HDk : Hid ((ent a.L ((b : Int) + 1)).d = l.length) := by show _ = _; rw [← HL.out]; exact (heldd_len HA.out.ok _).symm
                  have HF : Hid (fh B1 = l) := by show _ = _; rw [HFH.out, HB1.out, HAB.out.2, mod_at _ _ _ hlt2]; exact HL.out
                  have hw1 : wrap64 ((b : Int) + 1) = (b : Int) + 1 := wrS1 (Nat.le_trans hb hW)
                  have hw2 : IntKind.u64.wrap ((b : Int) + 1) = (b : Int) + 1 := wrS2 (Nat.le_trans hb hW)
                  have hw3 : IntKind.i64.wrap ((b : Int) + 1) = (b : Int) + 1 := wrS3 (Nat.le_trans hb hW)
                  go_wp2_with fail
                  clear hw1 hw2 hw3
                  refine (o_held (HA.out.later HM.out.below) (t := (b : Int) + 1) (u64S (Nat.le_trans hb hW))).mono ?_
                  rintro e w5 ⟨q5, c5, he5, hm5, -⟩
                  rw [HL.out, HDk.out] at hm5
                  rw [HDk.out] at he5
                  subst he5
                  obtain ⟨q5', c5', e5, -, hc5', hp5', -⟩ := B.ints_in hm5.own
                  simp only [Value.slice.injEq, true_and] at e5
                  have hc5 : l.length ≤ c5 := by rw [e5.2]; exact hc5'
                  have hp5 : q5 = none → c5 = 0 := by rw [e5.1, e5.2]; exact hp5'
                  have H5 : Hid (w5.ownsRow wr.heap.size 3 1 (.slice q5 l.length c5) l.length (B.I64 l) ∧ Below wr.heap.size wr w5) := ⟨hm5.own, hm5.below⟩
                  clear hm5 e5 hc5' hp5'
                  obtain ⟨q3', c3', w6, hrun, HM6, HX6⟩ : ∃ q c w6, Hid ((Builtin.append_ #[25, 25] 25 #[.slice q3 B1 c3, .slice (some ⟨w5.heap.size, 0, none⟩) 1 1]).run Try.prog (w5.alloc (.cells #[.slice q5 l.length c5] 37)) = .ok (.slice q (B1 + 1) c) w6) ∧ Hid (Mk w3 w6 fq fh (.slice q1 A1 c1) A1 (.slice q2 A1 c2) A1 (.slice q (B1 + 1) c) (B1 + 1) (.slice q4 B1 c4) B1) ∧ Hid (w6.ownsRow wr.heap.size 3 1 (.slice q5 l.length c5) l.length (B.I64 l)) := by
                    have hm := H5.out
                    rw [← HF.out] at hm
                    obtain ⟨v', w6, hr, h6, hx6⟩ := HM.out.pushH1 hm.2 hm.1 rfl (by omega)
                    obtain ⟨q, c, e⟩ := h6.shape.2.2.1
                    subst e
                    rw [HF.out] at hr hx6
                    exact ⟨q, c, w6, hr, h6, hx6⟩
                  clear H5 HM
                  have HLN : Hid (([] ++ B.I64 l : List Value).length = l.length) := by show _ = _; simp
                  go_wp2_with (at_builtin; first | refine wpList_app_is rfl (.tmp 97) (.tmp 99) 25 rfl (.slice q3 B1 c3) (.slice (some ⟨w5.heap.size, 0, none⟩) 1 1) (.slice q3' (B1 + 1) c3') rfl rfl hrun.out ?_ | refine Hid.out ?_)
                  clear hrun
                  unfold Hid
                  refine wpList_app rfl (.tmp 102) (.tmp 103) 37 rfl 3 iH (.int .i64 0) 8 Try.underlying37 hiH z0H z1H z2H rfl w6 (below_alloc _ _) (.slice (some ⟨w6.heap.size, 0, none⟩) 0 0) [] rfl (lit_own w6 w6.heap.size (Nat.le_refl _) [] 3 (by decide)) q5 l.length c5 (B.I64 l) rfl hp5 hc5 (by simp) (own_news (own_later HX6.out (below_alloc _ _))) (by intro u hu; obtain ⟨z, -, rfl⟩ := List.mem_map.1 hu; rfl) (by simp only [List.length_nil]; omega) (by simp only [List.length_nil]; omega) ?_
                  intro q7 c7 w7 o7 b7 _hk7
                  rw [HLN.out] at o7
                  rw [HLN.out]
                  go_wp2_with (at_builtin; refine Hid.out ?_)
                  unfold Hid
                  obtain ⟨q4', c4', w8, hrun, HM8⟩ : ∃ q c w8, Hid ((Builtin.append_ #[25, 25] 25 #[.slice q4 B1 c4, .slice (some ⟨w7.heap.size, 0, none⟩) 1 1]).run Try.prog (w7.alloc (.cells #[.slice q7 l.length c7] 37)) = .ok (.slice q (B1 + 1) c) w8) ∧ Hid (Mk w3 w8 fq fh (.slice q1 A1 c1) A1 (.slice q2 A1 c2) A1 (.slice q3' (B1 + 1) c3') (B1 + 1) (.slice q (B1 + 1) c) (B1 + 1)) := by
                    have o7' : w7.ownsRow w6.heap.size 3 1 (.slice q7 l.length c7) l.length (B.I64 l) := o7
                    rw [← HF.out] at o7'
                    obtain ⟨v', w8, hr, h8⟩ := HM6.out.pushH2 b7 o7' rfl (by omega)
                    obtain ⟨q, c, e⟩ := h8.shape.2.2.2
                    subst e
                    rw [HF.out] at hr
                    exact ⟨q, c, w8, hr, h8⟩
                  clear o7 b7 HM6 HX6 HLN
                  refine wpList_app_is rfl (.tmp 101) (.tmp 105) 25 rfl (.slice q4 B1 c4) (.slice (some ⟨w7.heap.size, 0, none⟩) 1 1) (.slice q4' (B1 + 1) c4') rfl rfl hrun.out ?_
                  clear hrun
                  go_wp2_with fail

                  go_roundw
                  case rel => exact ⟨b + 1, by omega, by go_num, _, _, _, _, _, rfl, rfl, by have := HB1.out; omega, HM8.out⟩
                  case measure => simp [intOf]; omega
                · have i3 : ¬ (b : Int) < (K : Int) := by omega
                  have HN : Hid (A1 = (t + 1) * N ∧ B1 = (t + 1) * K ∧ Mk w3 wr fq fh (.slice q1 A1 c1) A1 (.slice q2 A1 c2) A1 (.slice q3 B1 c3) B1 (.slice q4 B1 c4) B1) := ⟨HAB.out.1, by have h1 := HB1.out; have h2 := HAB.out.2; rw [Nat.succ_mul]; omega, HM.out⟩
                  clear HM HAB HB1
                  go_wp2_with fail
                  go_roundw
                  case rel => exact ⟨t + 1, by omega, by go_num, _, _, _, _, _, _, _, _, _, _, rfl, rfl, rfl, rfl, HN.out⟩
                  case measure => simp [intOf]; omega
        · have i2 : ¬ (t : Int) < 2 := by omega
          have HAB : Hid (N ≤ A1 ∧ K ≤ B1) := by
            obtain rfl : t = 2 := by omega
            exact ⟨by rw [HM.out.1]; omega, by rw [HM.out.2.1]; omega⟩
          have hAl : A1 ≤ 20 := by have h1 := HM.out.1; have := Nat.mul_le_mul (show t ≤ 2 by omega) hN.2; omega
          have hBl : B1 ≤ 20 := by have h1 := HM.out.2.1; have := Nat.mul_le_mul (show t ≤ 2 by omega) hW; omega
          have HM0 : Hid (Mk w3 wr fq fh (.slice q1 A1 c1) A1 (.slice q2 A1 c2) A1 (.slice q3 B1 c3) B1 (.slice q4 B1 c4) B1) := HM.out.2.2
          have HLQ : Hid (∀ i, (fq i).length ≤ 1000) := fun i => by rw [HFQ.out]; exact Nat.le_trans (HQL.out _) (by decide)
          have HLH : Hid (∀ i, (fh i).length ≤ 1000) := fun i => by rw [HFH.out]; exact Nat.le_trans (HHL.out _) (by decide)
          clear HM HQL HHL
          go_wp2_with fail
          go_loopw [110] (fun i wr => ∃ b : Nat, b ≤ A1 ∧ i = .int .i64 b ∧ Hid (Mk w3 wr fq fh (.slice q1 A1 c1) A1 (.slice q2 A1 c2) A1 (.slice q3 B1 c3) B1 (.slice q4 B1 c4) B1)) (fun i _ => A1 - (intOf i).toNat)
          case atStart => exact ⟨0, Nat.zero_le _, rfl, HM0.out⟩
          case round =>
            clear HM0
            obtain ⟨b, hb, rfl, HM⟩ := hrel
            by_cases hlt2 : b < A1
            · have i3 : (b : Int) < (A1 : Int) := by omega
              have i0 : (0 : Int) ≤ (b : Int) := by omega
              obtain ⟨g, g', pa, ca, pb, cb, rfl, rfl, y1, y2, u1, u2⟩ := HM.out.atQ hlt2
              have hln := HLQ.out b
              generalize fq b = l at *
              have O1 : Hid (UIn wr pa l.length l ∧ UIn wr pb l.length l) := ⟨u1, u2⟩
              have v1 : wr.drew.cell? ⟨g, b, none⟩ = some (.slice pa l.length ca) := y1
              have v2 : wr.drew.cell? ⟨g', b, none⟩ = some (.slice pb l.length cb) := y2
              clear u1 u2
              go_wp2_with fail
              go_quiet ((go_at_call 16; exact Calls.quiet_of (sameT_self _ _ _ _ _ _ _ _ (O1.out.1.later (below_drawn _)) (O1.out.2.later (below_drawn _)) (by omega))))
              go_wp2_with fail
              go_roundw
              case rel => exact ⟨b + 1, by omega, by go_num, HM.out.later (below_drawn _)⟩
              case measure => simp [intOf]; omega
            · have i3 : ¬ (b : Int) < (A1 : Int) := by omega
              have HM0 := HM
              clear HM
              go_wp2_with fail
              go_loopw [126] (fun i wr => ∃ b : Nat, b ≤ B1 ∧ i = .int .i64 b ∧ Hid (Mk w3 wr fq fh (.slice q1 A1 c1) A1 (.slice q2 A1 c2) A1 (.slice q3 B1 c3) B1 (.slice q4 B1 c4) B1)) (fun i _ => B1 - (intOf i).toNat)
              case atStart => exact ⟨0, Nat.zero_le _, rfl, HM0.out⟩
              case round =>
                clear HM0
                obtain ⟨b, hb, rfl, HM⟩ := hrel
                by_cases hlt2 : b < B1
                · have i3 : (b : Int) < (B1 : Int) := by omega
                  have i0 : (0 : Int) ≤ (b : Int) := by omega
                  obtain ⟨g, g', pa, ca, pb, cb, rfl, rfl, y1, y2, u1, u2⟩ := HM.out.atH hlt2
                  have hln := HLH.out b
                  generalize fh b = l at *
                  have O1 : Hid (B.IIn wr pa l.length l ∧ B.IIn wr pb l.length l) := ⟨u1, u2⟩
                  have v1 : wr.drew.cell? ⟨g, b, none⟩ = some (.slice pa l.length ca) := y1
                  have v2 : wr.drew.cell? ⟨g', b, none⟩ = some (.slice pb l.length cb) := y2
                  clear u1 u2
                  go_wp2_with fail
                  go_quiet ((go_at_call 17; exact Calls.quiet_of (sameI_self _ _ _ _ _ _ _ _ (O1.out.1.later (below_drawn _)) (O1.out.2.later (below_drawn _)) (by omega))))
                  go_wp2_with fail
                  go_roundw
                  case rel => exact ⟨b + 1, by omega, by go_num, HM.out.later (below_drawn _)⟩
                  case measure => simp [intOf]; omega
                · have i3 : ¬ (b : Int) < (B1 : Int) := by omega
                  go_wp2_with fail
                  refine (HM.out.marked (by omega) (by omega) HLQ.out HLH.out).mono ?_
                  rintro e w9 ⟨rfl, hb9, wq, wh⟩
                  have H9 : Hid (Own w w9 Q n a (fun _ => False)) := HA.out.later hb9
                  have HW : Hid (WrQ w9 q2 N (fun i => qS a.L (i : Int)) ∧ WrH w9 q4 K (fun i => (ent a.L ((i : Int) + 1)).held)) := by
                    refine ⟨fun i hi => ?_, fun i hi => ?_⟩
                    · have := wq i (by have := HAB.out.1; omega)
                      rw [HFQ.out, Nat.mod_eq_of_lt hi] at this
                      exact this
                    · have := wh i (by have := HAB.out.2; omega)
                      rw [HFH.out, Nat.mod_eq_of_lt hi] at this
                      exact this
                  clear hb9 wq wh HM
                  go_wp2_with fail
                  refine (kept_any H9.out (by omega) (by omega) hW HAB.out.1 HAB.out.2 HW.out.1 HW.out.2).mono ?_
                  rintro e w10 ⟨rfl, hb10⟩
                  have HZ : Hid (Below w.heap.size w w10) := (H9.out.later hb10).below
                  clear hb10 HW H9
                  go_wp2_with fail
                  go_ret
                  exact ⟨rfl, HZ.out⟩
end Go.Proofs.Ytkffmglcllhbmaa
