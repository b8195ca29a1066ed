/-
  Layer 17: CacheDrops.
-/
import Derived.Test.YthcpnfelnonhnaaQe
import Derived.Deep.Cut
import Derived.Deep.CutBlock
namespace Go.Proofs.Ythcpnfelnonhnaa
open Go.RowKit

theorem zeroN : (Try.prog.info? 52).bind (·.zero) = some (.agg (I64 (zs 8)).toArray) := by kernel_rfl
theorem zeroB : (Try.prog.info? 53).bind (·.zero) = some (.agg (B4 (List.replicate 8 false)).toArray) := by kernel_rfl
theorem allocN (w : World) : (Instr.alloc 52 true (.tuple #[])).run Try.prog w = .ok (.pointer (some ⟨w.heap.size, 0, none⟩)) (w.alloc (.cells (I64 (zs 8)).toArray 52)) := by
  simp only [Instr.alloc, Sem.run_bind, zv 52 _ zeroN, Result.andThen_ok]
  simp [newVar, newRow, Value.cells]
theorem allocB (w : World) : (Instr.alloc 53 true (.tuple #[])).run Try.prog w = .ok (.pointer (some ⟨w.heap.size, 0, none⟩)) (w.alloc (.cells (B4 (List.replicate 8 false)).toArray 53)) := by
  simp only [Instr.alloc, Sem.run_bind, zv 53 _ zeroB, Result.andThen_ok]
  simp [newVar, newRow, Value.cells]
theorem Dr.start {w W : World} {Q : Nat} (hb : Below w.heap.size w W) (hC : CAt W Q 8 (.slice none 0 0) [] 0) (hq : w.heap.size ≤ Q) {W2 : World} {bn bs : Nat} (hn : bn = W.heap.size) (hs : bs = W.heap.size + 1) (hW : W2 = (W.alloc (.cells (I64 (zs 8)).toArray 52)).alloc (.cells (B4 (List.replicate 8 false)).toArray 53)) : Dr w W2 Q (.slice none 0 0) [] 0 bn bs (zs 8) (List.replicate 8 false) (.slice none 0 0) [] := by
  have b1 := below_alloc W (.cells (I64 (zs 8)).toArray 52)
  have b2 := below_alloc (W.alloc (.cells (I64 (zs 8)).toArray 52)) (.cells (B4 (List.replicate 8 false)).toArray 53)
  have h1 : LAt 52 (W.alloc (.cells (I64 (zs 8)).toArray 52)) W.heap.size (I64 (zs 8)) := LAt.new _ _ _
  have h2 : LAt 53 ((W.alloc (.cells (I64 (zs 8)).toArray 52)).alloc (.cells (B4 (List.replicate 8 false)).toArray 53)) (W.heap.size + 1) (B4 (List.replicate 8 false)) := by
    have := LAt.new 53 (W.alloc (.cells (I64 (zs 8)).toArray 52)) (B4 (List.replicate 8 false))
    rw [World.size_alloc] at this
    exact this
  have hs0 := hb.size
  subst hn hs hW
  exact ⟨below_then hb (below_then b1 b2), (hC.later b1).later b2, LAt.later h1 b2, h2, World.ownsRow_nil _ _ _ _, hq, hs0, by omega, fun g hg => (by cases hg), fun g hg => (by cases hg)⟩
/-- what is told so far -/
def Tol (i a : Nat) (T : List En) (N : List Int) : Prop := (i ≤ a ∧ T = []) ∨ (a < i ∧ Tld T N a)
structure Std (w W : World) (Q : Nat) (ve : Value) (L : List En) (bn bs : Nat) (N : List Int) (S : List Bool) (vt : Value) (T : List En) (fl : Nat → Int) (i a t : Nat) : Prop where
  dr : Dr w W Q ve L (3 * (i : Int)) bn bs N S vt T
  ok : Okc 8 L (3 * (i : Int))
  nw : Nws L N fl i
  sn : Snc N S a
  told : Tol t a T N
  wf : EnsWf T
  few : T.length ≤ 64
theorem Std.tell {w W W' : World} {Q bn bs : Nat} {ve vt v : Value} {L T : List En} {N : List Int} {S : List Bool} {fl : Nat → Int} {a t : Nat} (h : Std w W Q ve L bn bs N S vt T fl a a t) (hb : Below W.heap.size W W') (ho : EOwn 44 W' W.heap.size v L) : Std w W' Q ve L bn bs N S v L fl a a (a + 1) :=
  ⟨h.dr.tell hb ho, h.ok, h.nw, h.sn, .inr ⟨by omega, Tld.of h.nw h.ok.up h.ok.ins⟩, h.ok.wf, h.ok.few⟩
theorem Std.pass {w W : World} {Q bn bs : Nat} {ve vt : Value} {L T : List En} {N : List Int} {S : List Bool} {fl : Nat → Int} {i a : Nat} (h : Std w W Q ve L bn bs N S vt T fl i a i) (hne : i ≠ a) : Std w W Q ve L bn bs N S vt T fl i a (i + 1) :=
  { h with told := h.told.elim (fun e => .inl ⟨by omega, e.2⟩) fun e => .inr ⟨by omega, e.2⟩ }
theorem Std.step {w W : World} {Q bn bs : Nat} {ve vt : Value} {L T : List En} {N R : List Int} {S : List Bool} {fl : Nat → Int} {i a : Nat} {ve0 : Value} {W0 : World} (h : Std w W0 Q ve0 L bn bs N S vt T fl i a (i + 1)) (hi : i < 40) (hf : 0 ≤ fl i ∧ fl i < 256) (hR : Rsn R 8) (hd : Dr w W Q ve (lays L (imsR R (fl i)) (3 * (i : Int) + 2)) (3 * (i : Int) + 3) bn bs (nset N R ((i : Int) + 1)) (sset S R (decide (a ≤ i))) vt T) : Std w W Q ve (lays L (imsR R (fl i)) (3 * (i : Int) + 2)) bn bs (nset N R ((i : Int) + 1)) (sset S R (decide (a ≤ i))) vt T fl (i + 1) a (i + 1) := by
  have e3 : 3 * ((i + 1 : Nat) : Int) = 3 * (i : Int) + 3 := by omega
  refine ⟨by rw [e3]; exact hd, ?_, h.nw.step h.ok.up hR, h.sn.step h.nw hR, ?_, h.wf, h.few⟩
  · rw [e3]
    have := (h.ok.lays (p := 3 * (i : Int) + 2) (by omega) (imsR R (fl i)) (imsR_wf hR hf) (fun x hx => by simpa using List.any_eq_false.1 (imsR_in hR) x hx)).next (p := 3 * (i : Int) + 2) (by omega) (by omega)
    rw [show 3 * (i : Int) + 2 + 1 = 3 * (i : Int) + 3 by omega] at this
    exact this
  · rcases h.told with ⟨h1, h2⟩ | ⟨h1, h2⟩
    · exact .inl ⟨h1, h2⟩
    · exact .inr ⟨h1, h2.step h.nw (by omega) hR⟩
theorem take_snocI {R : List Int} {k : Nat} (hk : k < R.length) : R.take (k + 1) = R.take k ++ [R.getD k 0] := by
  rw [List.take_succ_eq_append_getElem hk]
  simp [List.getD, List.getElem?_eq_getElem hk]
theorem getD_some {R : List Int} {k : Nat} (hk : k < R.length) : R[k]? = some (R.getD k 0) := by simp [List.getD, List.getElem?_eq_getElem hk]
theorem getD_mem {R : List Int} {k : Nat} (hk : k < R.length) : R.getD k 0 ∈ R := List.mem_of_getElem? (getD_some hk)
set_option maxHeartbeats 2000000 in
set_option maxRecDepth 100000 in
theorem cacheDrops_any (w : World) {p : Option Addr} {m c : Nat} {fl : Nat → Int} (h : CmIn w p m fl) (hm : m ≤ 140737488355328) (a0 : Int) : Calls Try.prog 4 #[.slice p m c, .int .i64 a0] w fun e w' => e = .returned (.bool true) ∧ Below w.heap.size w w' := by
  have HI : Hid (CmIn w p m fl) := h
  clear h
  obtain ⟨n, hn⟩ : ∃ n : Nat, n = min m 40 := ⟨_, rfl⟩
  obtain ⟨a, ha⟩ : ∃ a : Nat, (a : Int) = min (max a0 0) (n : Int) := ⟨(min (max a0 0) (n : Int)).toNat, by omega⟩
  have hn40 : n ≤ 40 := by omega
  have hnm : n ≤ m := by omega
  have han : a ≤ n := by omega
  obtain ⟨a1, ha1⟩ : ∃ a1 : Int, a1 = max a0 0 := ⟨_, rfl⟩
  have e1 : (if (40 : Int) < (m : Int) then (40 : Int) else (m : Int)) = (n : Int) := by split <;> omega
  have e2 : (if a0 < 0 then (0 : Int) else a0) = a1 := by split <;> omega
  have e3 : (if (n : Int) < a1 then (n : Int) else a1) = (a : Int) := by split <;> omega
  clear ha1 ha hn
  go_enter Try.func4, Try.ntmps4
  go_wp2_with fail
  refine (fixed_is w).mono ?_
  rintro e w1 ⟨rfl, b1⟩
  have HB1 : Hid (Below w.heap.size w w1) := b1
  clear b1
  go_wp2_with fail
  refine (new_at (n := 8) (by decide) (by decide) w1).mono ?_
  rintro e w2 ⟨rfl, hC2, b2⟩
  have HC2 : Hid (CAt w2 w1.heap.size 8 (.slice none 0 0) [] 0) := hC2
  have HB2 : Hid (Below w.heap.size w w2) := below_then HB1.out b2
  clear hC2 b2
  obtain ⟨w3, hw3⟩ : ∃ w3, w3 = w2.alloc (.cells (I64 (zs 8)).toArray 52) := ⟨_, rfl⟩
  obtain ⟨w4, hw4⟩ : ∃ w4, w4 = w3.alloc (.cells (B4 (List.replicate 8 false)).toArray 53) := ⟨_, rfl⟩
  have s3 : w3.heap.size = w2.heap.size + 1 := by rw [hw3]; simp
  have A3 : Hid ((Instr.alloc 52 true (.tuple #[])).run Try.prog w2 = .ok (.pointer (some ⟨w2.heap.size, 0, none⟩)) w3) := by rw [hw3]; exact allocN w2
  have A4 : Hid ((Instr.alloc 53 true (.tuple #[])).run Try.prog w3 = .ok (.pointer (some ⟨w2.heap.size + 1, 0, none⟩)) w4) := by rw [hw4, ← s3]; exact allocB w3
  have HD0 : Hid (Dr w w4 w1.heap.size (.slice none 0 0) [] 0 w2.heap.size (w2.heap.size + 1) (zs 8) (List.replicate 8 false) (.slice none 0 0) []) := Dr.start HB2.out HC2.out HB1.out.size rfl rfl (by rw [hw4, hw3])
  clear hw3 hw4 s3 HC2 HB2 HB1
  generalize w1.heap.size = Q at *
  generalize w2.heap.size = bn at *
  go_wp2_with ((with_reducible refine at_ops ?_); (first | (refine wpList_alloc_is (by rfl) 52 rfl A3.out ?_) | (refine wpList_alloc_is (by rfl) 53 rfl A4.out ?_)); simp only [Act.put, List.setIfInBounds_toArray, List.set_cons_zero, List.set_cons_succ])
  have HS0 : Hid (Std w w4 Q (.slice none 0 0) [] bn (bn + 1) (zs 8) (List.replicate 8 false) (.slice none 0 0) [] fl 0 a 0) := ⟨HD0.out, Okc.new (by decide) (by decide), Nws.new fl, Snc.new a, .inl ⟨by omega, rfl⟩, EnsWf.nil, by simp⟩
  obtain ⟨bs, hbs⟩ : ∃ bs, bs = bn + 1 := ⟨_, rfl⟩
  rw [← hbs] at HS0 ⊢
  clear e1 e2 e3 A3 A4 HD0 hbs
  go_loopw [8, 11] (fun v v2 W => ∃ (i : Nat) (pt : Option Addr) (mt ct : Nat) (ve : Value) (L T : List En) (N : List Int) (S : List Bool), v = .slice pt mt ct ∧ v2 = .int .i64 (i : Int) ∧ i ≤ n ∧ Hid (Std w W Q ve L bn bs N S (.slice pt mt ct) T fl i a i)) (fun _ v _ => n - (intOf v).toNat)
  case atStart => exact ⟨0, none, 0, 0, _, _, _, _, _, rfl, rfl, by omega, HS0⟩
  case round =>
    obtain ⟨i, pt, mt, ct, ve, L, T, N, S, rfl, rfl, hi, HS⟩ := hrel
    clear HS0
    by_cases hin : i < n
    · go_upto_if 53 with fail
      go_cut [8] from 53 to 55 (fun v W => ∃ (pt : Option Addr) (mt ct : Nat) (T : List En), v = .slice pt mt ct ∧ Hid (Std w W Q ve L bn bs N S (.slice pt mt ct) T fl i a (i + 1)))
      case first =>
        by_cases hia : i = a
        · have hb : ((i : Int) == (a : Int)) = true := by rw [beq_iff_eq]; omega
          have HIA : Hid (i = a) := hia
          clear hia
          go_wp2_with fail
          refine (entries_any (HS.out.dr.cac.stands HS.out.ok)).mono ?_
          rintro e w5 ⟨v5, rfl, ho5, b5⟩
          obtain ⟨p5, m5, c5, rfl⟩ : ∃ p5 m5 c5, v5 = .slice p5 m5 c5 := by obtain ⟨p5, c5, e5, -, -⟩ := O.own_form ho5; exact ⟨p5, _, c5, e5⟩
          have HS5 : Hid (Std w w5 Q ve L bn bs N S (.slice p5 m5 c5) L fl i a (i + 1)) := by
            have h1 := HS.out
            have h2 := HIA.out
            show Std _ _ _ _ _ _ _ _ _ _ _ _ _ _ _
            subst h2
            exact h1.tell b5 ho5
          clear ho5 b5
          go_wp2_with fail
          go_meet
          case rel => exact ⟨p5, m5, c5, L, rfl, HS5⟩
        · have hb : ((i : Int) == (a : Int)) = false := by rw [beq_eq_false_iff_ne]; omega
          have HS5 : Hid (Std w wr Q ve L bn bs N S (.slice pt mt ct) T fl i a (i + 1)) := HS.out.pass hia
          clear hia
          go_wp2_with fail
          go_meet
          case rel => exact ⟨pt, mt, ct, T, rfl, HS5⟩
      case rest =>
        obtain ⟨pt, mt, ct, T, rfl, HS5⟩ := hcut
        clear HS
        obtain ⟨cb, co, rfl, hcc⟩ := HI.out.cells (by omega)
        obtain ⟨qs, ls, cs, ss, h1, h2, h3, h4⟩ := hcc i (by omega)
        have hbc := HS5.out.dr.bel
        have k1 := (hbc.cell (World.block_lt_of_cell? w _ h1)).trans h1
        have HII : Hid (IIn wc .i64 qs ls ss) := h2.later hbc
        have HF4 : Hid (∀ W, Below w.heap.size w W → W.cell? ⟨cb, co + i * 2 + 1, none⟩ = some (.int .u8 (fl i))) := fun W hW => (hW.cell (World.block_lt_of_cell? w _ h4)).trans h4
        have HFB : Hid (0 ≤ fl i ∧ fl i < 256) := HI.out.byte i (by omega)
        have j1 : (i : Int) < (m : Int) := by omega
        have j0 : (0 : Int) ≤ (i : Int) := by omega
        clear hcc h1 h2 h4 hbc
        go_wp2_with fail
        refine (rising_at HII.out h3).mono ?_
        rintro e w6 ⟨vs, R, rfl, ho6, hR6, b6⟩
        obtain ⟨ps, ms, cs6, rfl, hms, hps⟩ : ∃ ps ms cs6, vs = .slice ps ms cs6 ∧ ms = R.length ∧ (0 < R.length → ∃ g, ps = some ⟨g, 0, none⟩) := by
          obtain ⟨ps, c6, e6, -, h6⟩ := O.own_form ho6
          exact ⟨ps, _, c6, e6, rfl, h6⟩
        have HR : Hid (Rsn R 8) := hR6
        have HQ0 : Hid (Dq w w6 Q ve L (3 * (i : Int)) bn bs (nset N (R.take 0) ((i : Int) + 1)) (sset S (R.take 0) (decide (a ≤ i))) (.slice pt mt ct) T (.slice ps ms cs6) R (.slice none 0 0) (fl i) 0) := ⟨HS5.out.dr.later b6, own_mono ho6 HS5.out.dr.bel.size, World.ownsRow_nil _ _ _ _⟩
        have HS6 : Hid (Std w w6 Q ve L bn bs N S (.slice pt mt ct) T fl i a (i + 1)) := { HS5.out with dr := HS5.out.dr.later b6 }
        have hRl : R.length ≤ 8 := by have := hR6.len (by decide); omega
        have HPS : Hid (0 < R.length → ∃ g, ps = some ⟨g, 0, none⟩) := hps
        have HMS : Hid (ms = R.length) := hms
        have hm8 : ms ≤ 8 := by omega
        clear ho6 hR6 b6 k1 HII HS5 hps hms
        obtain ⟨f, hf⟩ : ∃ f, f = fl i := ⟨_, rfl⟩
        rw [← hf] at HQ0 HF4
        have HFE : Hid (f = fl i) := hf
        clear hf
        go_wp2_with fail
        go_loopw [12, 14] (fun v v2 W => ∃ (k : Nat) (pi : Option Addr) (mi ci : Nat), v = .slice pi mi ci ∧ v2 = .int .i64 (k : Int) ∧ k ≤ ms ∧ Hid (mi = k) ∧ Hid (Dq w W Q ve L (3 * (i : Int)) bn bs (nset N (R.take k) ((i : Int) + 1)) (sset S (R.take k) (decide (a ≤ i))) (.slice pt mt ct) T (.slice ps ms cs6) R (.slice pi mi ci) f k)) (fun _ v _ => ms - (intOf v).toNat)
        case atStart => exact ⟨0, none, 0, 0, rfl, rfl, by omega, (rfl : 0 = 0), HQ0⟩
        case round =>
          obtain ⟨k, pi, mi, ci, rfl, rfl, hk, HMI, HQ⟩ := hrel
          clear HQ0
          by_cases hkl : k < ms
          · have hkR : k < R.length := by have := HMS.out; omega
            obtain ⟨gs, rfl⟩ := HPS.out (by omega)
            obtain ⟨bb, hbb, hb8⟩ : ∃ bb : Nat, R.getD k 0 = (bb : Int) ∧ bb < 8 := by
              have := HR.out.ins _ (getD_mem hkR)
              exact ⟨(R.getD k 0).toNat, by omega, by omega⟩
            have HRK : Hid (R[k]? = some (bb : Int)) := by rw [← hbb]; exact getD_some hkR
            have HTK : Hid (R.take (k + 1) = R.take k ++ [(bb : Int)]) := by show _ = _; rw [take_snocI hkR, hbb]
            obtain ⟨NN, hNN⟩ : ∃ NN, NN = nset N (R.take k) ((i : Int) + 1) := ⟨_, rfl⟩
            obtain ⟨SS, hSS⟩ : ∃ SS, SS = sset S (R.take k) (decide (a ≤ i)) := ⟨_, rfl⟩
            have HN2 : Hid (nset N (R.take (k + 1)) ((i : Int) + 1) = NN.set bb ((i : Int) + 1)) := by show _ = _; rw [HTK.out, nset_snoc, hNN]; rfl
            have HS2 : Hid (sset S (R.take (k + 1)) (decide (a ≤ i)) = SS.set bb (SS.getD bb false || decide (a ≤ i))) := by show _ = _; rw [HTK.out, sset_snoc, hSS]; rfl
            have HNL : Hid (NN.length = 8) := by show _ = _; rw [hNN, nset_len]; exact HS6.out.nw.len
            have HSL : Hid (SS.length = 8) := by show _ = _; rw [hSS, sset_len]; exact HS6.out.sn.len
            rw [← hNN, ← hSS] at HQ
            have HqD : Hid (Dq w wr.drew Q ve L (3 * (i : Int)) bn bs NN SS (.slice pt mt ct) T (.slice (some ⟨gs, 0, none⟩) ms cs6) R (.slice pi mi ci) f k) := HQ.out.later (show Below wr.heap.size wr wr.drew from below_drawn 1)
            have HSV : Hid (∀ W {vi : Value} {k' : Nat} {NN : List Int} {SS : List Bool}, Dq w W Q ve L (3 * (i : Int)) bn bs NN SS (.slice pt mt ct) T (.slice (some ⟨gs, 0, none⟩) ms cs6) R vi f k' → W.cell? ⟨gs, k, none⟩ = some (.int .i64 (bb : Int)) ∧ W.cell? ⟨cb, co + i * 2 + 1, none⟩ = some (.int .u8 f)) := fun W {vi k' NN SS} hq => ⟨by
              have := hq.set.cells (g := gs) rfl k (.int .i64 (bb : Int)) (by rw [List.getElem?_map, HRK.out]; rfl)
              rw [Go.WideShapes.add_plain, Nat.zero_add] at this
              exact this, HF4.out W hq.dr.bel⟩
            have HIW : Hid (ImsWf (imsR (R.take k) f)) := fun x hx => by
              obtain ⟨b, hb, rfl⟩ := List.mem_map.1 hx
              exact imsR_wf HR.out (by rw [HFE.out]; exact HFB.out) _ (List.mem_map.2 ⟨b, List.mem_of_mem_take hb, rfl⟩)
            have HIL : Hid ((imsR (R.take k) f).length = k) := by show _ = _; rw [imsR_len, List.length_take]; omega
            have HXW : Hid (Im.Wf ⟨(bb : Int), valS f bb⟩) := imsR_wf HR.out (by rw [HFE.out]; exact HFB.out) _ (List.mem_map.2 ⟨_, List.mem_of_getElem? HRK.out, rfl⟩)
            have HS1 : Hid (wr.drew.cell? ⟨gs, k, none⟩ = some (.int .i64 (bb : Int)) ∧ wr.drew.cell? ⟨cb, co + i * 2 + 1, none⟩ = some (.int .u8 f)) := HSV.out wr.drew HqD.out
            have l1 : (k : Int) < (ms : Int) := by omega
            have l0 : (0 : Int) ≤ (k : Int) := by omega
            have l3 : (bb : Int) < 8 := by omega
            have l2 : (0 : Int) ≤ (bb : Int) := by omega
            clear hNN hSS hbb HTK HQ hkR
            go_wp2_with fail
            refine wp_region_noPanic ?_
            refine wp_region_held_drew (S := fun W => W.cell? ⟨gs, k, none⟩ = some (.int .i64 (bb : Int)) ∧ W.cell? ⟨cb, co + i * 2 + 1, none⟩ = some (.int .u8 f)) (by kernel_rfl) HS1.out (fun hHeld => ?_)
            generalize wr.drew = wD at *
            refine wpAnyH_take (i := 0) (v := ?va1) (by simp; rfl) (by kernel_rfl) (by kernel_rfl) (by kernel_rfl) (fun _ _ _ h => h) (Or.inl ⟨by rfl, ?ya1⟩) hHeld ?ra1
            case ya1 => intro w hSw; clear hSw; go_simp; with_reducible rfl
            simp only [Act.put, List.setIfInBounds_toArray, List.set_cons_zero, List.set_cons_succ]
            refine wpAnyH_take (i := 1) (v := ?va2) (by simp; rfl) (by kernel_rfl) (by kernel_rfl) (by kernel_rfl) (fun _ _ _ h => h) (Or.inl ⟨by rfl, ?ya2⟩) hHeld ?ra2
            case ya2 => intro w hSw; clear hSw; go_simp; with_reducible rfl
            simp only [Act.put, List.setIfInBounds_toArray, List.set_cons_zero, List.set_cons_succ]
            refine wpAnyH_take (i := 2) (v := ?va3) (by simp; rfl) (by kernel_rfl) (by kernel_rfl) (by kernel_rfl) (fun _ _ _ h => h) (Or.inl ⟨by rfl, ?ya3⟩) hHeld ?ra3
            case ya3 => intro w hSw; clear hSw; go_simp; with_reducible rfl
            simp only [Act.put, List.setIfInBounds_toArray, List.set_cons_zero, List.set_cons_succ]
            refine wpAnyH_take (i := 3) (v := ?va4) (by simp; rfl) (by kernel_rfl) (by kernel_rfl) (by kernel_rfl) (fun _ _ _ h => h) (Or.inl ⟨by rfl, ?ya4⟩) hHeld ?ra4
            case ya4 => intro w hSw; clear hSw; go_simp; with_reducible rfl
            simp only [Act.put, List.setIfInBounds_toArray, List.set_cons_zero, List.set_cons_succ]
            refine wpAnyH_take (i := 4) (v := ?va5) (by simp; rfl) (by kernel_rfl) (by kernel_rfl) (by kernel_rfl) (fun _ _ _ h => h) (Or.inl ⟨by rfl, ?ya5⟩) hHeld ?ra5
            case ya5 => intro w hSw; have z := hSw.1; clear hSw; go_simp; with_reducible rfl
            simp only [Act.put, List.setIfInBounds_toArray, List.set_cons_zero, List.set_cons_succ]
            refine wpAnyH_take (i := 5) (v := ?va6) (by simp; rfl) (by kernel_rfl) (by kernel_rfl) (by kernel_rfl) (fun _ _ _ h => h) (Or.inl ⟨by rfl, ?ya6⟩) hHeld ?ra6
            case ya6 => intro w hSw; clear hSw; go_simp; with_reducible rfl
            simp only [Act.put, List.setIfInBounds_toArray, List.set_cons_zero, List.set_cons_succ]
            refine wpAnyH_take (i := 6) (v := ?va7) (by simp; rfl) (by kernel_rfl) (by kernel_rfl) (by kernel_rfl) (fun _ _ _ h => h) (Or.inl ⟨by rfl, ?ya7⟩) hHeld ?ra7
            case ya7 => intro w hSw; clear hSw; go_simp; with_reducible rfl
            simp only [Act.put, List.setIfInBounds_toArray, List.set_cons_zero, List.set_cons_succ]
            refine wpAnyH_take (i := 7) (v := ?va8) (by simp; rfl) (by kernel_rfl) (by kernel_rfl) (by kernel_rfl) (fun _ _ _ h => h) (Or.inl ⟨by rfl, ?ya8⟩) hHeld ?ra8
            case ya8 => intro w hSw; clear hSw; go_simp; with_reducible rfl
            simp only [Act.put, List.setIfInBounds_toArray, List.set_cons_zero, List.set_cons_succ]
            refine wpAnyH_take (i := 8) (v := ?va9) (by simp; rfl) (by kernel_rfl) (by kernel_rfl) (by kernel_rfl) (fun _ _ _ h => h) (Or.inl ⟨by rfl, ?ya9⟩) hHeld ?ra9
            case ya9 => intro w hSw; clear hSw; go_simp; with_reducible rfl
            simp only [Act.put, List.setIfInBounds_toArray, List.set_cons_zero, List.set_cons_succ]
            refine wpAnyH_take (i := 9) (v := ?va10) (by simp; rfl) (by kernel_rfl) (by kernel_rfl) (by kernel_rfl) (fun _ _ _ h => h) (Or.inl ⟨by rfl, ?ya10⟩) hHeld ?ra10
            case ya10 => intro w hSw; have z := hSw.2; clear hSw; go_simp; with_reducible rfl
            simp only [Act.put, List.setIfInBounds_toArray, List.set_cons_zero, List.set_cons_succ]
            refine wpAnyH_take (i := 10) (v := ?va11) (by simp; rfl) (by kernel_rfl) (by kernel_rfl) (by kernel_rfl) (fun _ _ _ h => h) (Or.inl ⟨by rfl, ?ya11⟩) hHeld ?ra11
            case ya11 => intro w hSw; clear hSw; go_simp; with_reducible rfl
            simp only [Act.put, List.setIfInBounds_toArray, List.set_cons_zero, List.set_cons_succ]
            refine wpAnyH_take (i := 11) (v := ?va12) (by simp; rfl) (by kernel_rfl) (by kernel_rfl) (by kernel_rfl) (fun _ _ _ h => h) (Or.inl ⟨by rfl, ?ya12⟩) hHeld ?ra12
            case ya12 => intro w hSw; clear hSw; go_simp; with_reducible rfl
            simp only [Act.put, List.setIfInBounds_toArray, List.set_cons_zero, List.set_cons_succ]
            refine wpAnyH_take (i := 12) (v := ?va13) (by simp; rfl) (by kernel_rfl) (by kernel_rfl) (by kernel_rfl) (fun _ _ _ h => h) (Or.inl ⟨by rfl, ?ya13⟩) hHeld ?ra13
            case ya13 => intro w hSw; clear hSw; go_simp; with_reducible rfl
            simp only [Act.put, List.setIfInBounds_toArray, List.set_cons_zero, List.set_cons_succ]
            refine wpAnyH_take (i := 13) (v := ?va14) (by simp; rfl) (by kernel_rfl) (by kernel_rfl) (by kernel_rfl) (fun _ _ _ h => h) (Or.inl ⟨by rfl, ?ya14⟩) hHeld ?ra14
            case ya14 => intro w hSw; have z := hSw.1; clear hSw; go_simp; with_reducible rfl
            simp only [Act.put, List.setIfInBounds_toArray, List.set_cons_zero, List.set_cons_succ]
            refine wpAnyH_ready (rs := [14]) (by kernel_rfl) (by simp) ?_
            refine AllReadyH.cons (by simp; rfl) (fun Kc hKc => ?_) AllReadyH.nil
            go_simp
            refine (value_at f (bb : Int) (by omega) wD).mono ?_
            rintro e wV ⟨rfl, bV⟩
            have HqV : Hid (Dq w wV Q ve L (3 * (i : Int)) bn bs NN SS (.slice pt mt ct) T (.slice (some ⟨gs, 0, none⟩) ms cs6) R (.slice pi mi ci) f k) := HqD.out.later bV
            have HS1 : Hid (wV.cell? ⟨gs, k, none⟩ = some (.int .i64 (bb : Int)) ∧ wV.cell? ⟨cb, co + i * 2 + 1, none⟩ = some (.int .u8 f)) := HSV.out wV HqV.out
            clear bV
            refine hKc.out _ _ HS1.out (fun hHeld => ?_)
            clear hKc Kc
            refine wpAnyH_take (i := 15) (v := _) (by simp; rfl) (by kernel_rfl) (by kernel_rfl) (by kernel_rfl) (fun _ _ _ h => h) (yields_build_is (vs := [(0, .int .i64 (bb : Int)), (1, .agg (U8 (valS f bb)).toArray)]) (by rfl) 31 rfl (by rfl) (fun w => buildI w bb (valS f bb) (valS_len f bb))) hHeld ?_
            simp only [Act.put, List.setIfInBounds_toArray, List.set_cons_zero, List.set_cons_succ]
            refine wpAnyH_ready (rs := [16]) (by kernel_rfl) (by simp) ?_
            refine AllReadyH.cons (by simp; rfl) (fun Kc hKc => ?_) AllReadyH.nil
            refine step_slice1_is (by rfl) 32 rfl rfl (build_im wV ⟨bb, valS f bb⟩ (valS_len f bb)) ?_
            have bB := below_alloc wV (.cells (icells ⟨bb, valS f bb⟩).toArray 31)
            have lB : LAt 31 (wV.alloc (.cells (icells ⟨bb, valS f bb⟩).toArray 31)) wV.heap.size (icells ⟨bb, valS f bb⟩) := LAt.new _ _ _
            obtain ⟨wB, hwB⟩ : ∃ wB, wB = wV.alloc (.cells (icells ⟨bb, valS f bb⟩).toArray 31) := ⟨_, rfl⟩
            obtain ⟨nB, hnB⟩ : ∃ nB, nB = wV.heap.size := ⟨_, rfl⟩
            rw [← hwB, ← hnB] at lB ⊢
            rw [← hwB] at bB
            have HqB : Hid (Dq w wB Q ve L (3 * (i : Int)) bn bs NN SS (.slice pt mt ct) T (.slice (some ⟨gs, 0, none⟩) ms cs6) R (.slice pi mi ci) f k) := HqV.out.later bB
            have HlB : Hid (LAt 31 wB nB (icells ⟨bb, valS f bb⟩)) := lB
            have HSB : Hid (wB.cell? ⟨gs, k, none⟩ = some (.int .i64 (bb : Int)) ∧ wB.cell? ⟨cb, co + i * 2 + 1, none⟩ = some (.int .u8 f)) := HSV.out wB (HqB.out)
            clear bB lB hwB hnB
            refine hKc.out _ _ HSB.out (fun hHeld => ?_)
            clear hKc Kc
            simp only [Act.put, List.setIfInBounds_toArray, List.set_cons_zero, List.set_cons_succ]
            refine wpAnyH_ready (rs := [17]) (by kernel_rfl) (by simp) ?_
            refine AllReadyH.cons (by simp; rfl) (fun Kc hKc => ?_) AllReadyH.nil
            obtain ⟨q', c', wA, hap, ho, hg, hat⟩ := app_ims (c := 1) HqB.out.im HIW.out (one_min HlB.out HXW.out) (by rw [HIL.out]; omega) HqB.out.dr.bel.size
            have HAP : Hid ((Builtin.append_ #[32, 32] 32 #[.slice pi mi ci, .slice (some ⟨nB, 0, none⟩) 1 1]).run Try.prog wB = .ok (.slice q' (imsR (R.take k) f ++ [(⟨bb, valS f bb⟩ : Im)]).length c') wA) := hap
            have HqA : Hid (Dq w wA Q ve L (3 * (i : Int)) bn bs NN SS (.slice pt mt ct) T (.slice (some ⟨gs, 0, none⟩) ms cs6) R (.slice q' (imsR (R.take k) f ++ [(⟨bb, valS f bb⟩ : Im)]).length c') f (k + 1)) := HqB.out.app HRK.out ho hg
            have HML : Hid ((imsR (R.take k) f ++ [(⟨bb, valS f bb⟩ : Im)]).length = k + 1) := by show _ = _; rw [List.length_append, HIL.out]; rfl
            have HSA : Hid (wA.cell? ⟨gs, k, none⟩ = some (.int .i64 (bb : Int)) ∧ wA.cell? ⟨cb, co + i * 2 + 1, none⟩ = some (.int .u8 f)) := HSV.out wA (HqA.out)
            clear hap ho hg hat
            generalize (imsR (R.take k) f ++ [(⟨bb, valS f bb⟩ : Im)]).length = m2 at *
            refine step_append_is (u1 := .slice pi mi ci) (u2 := .slice (some ⟨nB, 0, none⟩) 1 1) (by rfl) rfl rfl rfl rfl HAP.out ?_
            refine hKc.out _ _ HSA.out (fun hHeld => ?_)
            clear hKc Kc
            simp only [Act.put, List.setIfInBounds_toArray, List.set_cons_zero, List.set_cons_succ]
            refine wpAnyH_take (i := 18) (v := ?va15) (by simp; rfl) (by kernel_rfl) (by kernel_rfl) (by kernel_rfl) (fun _ _ _ h => h) (Or.inl ⟨by rfl, ?ya15⟩) hHeld ?ra15
            case ya15 => intro w hSw; clear hSw; go_simp; with_reducible rfl
            simp only [Act.put, List.setIfInBounds_toArray, List.set_cons_zero, List.set_cons_succ]
            refine wpAnyH_done (by kernel_rfl) (NoPanic.normal ?_) _
            clear hHeld
            have z1 := (HSV.out wA HqA.out).1
            have z2 := HqA.out.dr.cN (b := bb) (by rw [HNL.out]; exact hb8)
            have z3 := HqA.out.dr.fN bb
            have hwi : IntKind.i64.wrap ((i : Int) + 1) = (i : Int) + 1 := by rw [IntKind.wrap_i64]; omega
            have HqN : Hid (Dq w (wA.setCell ⟨bn, bb, none⟩ (.int .i64 ((i : Int) + 1))) Q ve L (3 * (i : Int)) bn bs (NN.set bb ((i : Int) + 1)) SS (.slice pt mt ct) T (.slice (some ⟨gs, 0, none⟩) ms cs6) R (.slice q' m2 c') f (k + 1)) := HqA.out.setN bb _
            go_wp2_with fail
            clear z1 z2 z3 hwi
            generalize wA.setCell ⟨bn, bb, none⟩ (.int .i64 ((i : Int) + 1)) = wN at *
            have HqE : Hid (Dq w wN.drew Q ve L (3 * (i : Int)) bn bs (NN.set bb ((i : Int) + 1)) SS (.slice pt mt ct) T (.slice (some ⟨gs, 0, none⟩) ms cs6) R (.slice q' m2 c') f (k + 1)) := HqN.out.later (show Below wN.heap.size wN wN.drew from below_drawn 1)
            have mixed : Try.prog.follows Departure.mixedOrders = true := by kernel_rfl
            cases hsb : SS.getD bb false with
            | true =>
              have HF5 : Hid (wN.drew.cell? ⟨bs, bb, none⟩ = some (.bool true) ∧ wN.drew.frozen? ⟨bs, bb, none⟩ = false) := ⟨by rw [← hsb]; exact HqE.out.dr.cS (by rw [HSL.out]; exact hb8), HqE.out.dr.fS bb⟩
              have HFN : Hid (Dq w (wN.drew.setCell ⟨bs, bb, none⟩ (.bool true)) Q ve L (3 * (i : Int)) bn bs (nset N (R.take (k + 1)) ((i : Int) + 1)) (sset S (R.take (k + 1)) (decide (a ≤ i))) (.slice pt mt ct) T (.slice (some ⟨gs, 0, none⟩) ms cs6) R (.slice q' m2 c') f (k + 1)) := by
                show Dq _ _ _ _ _ _ _ _ _ _ _ _ _ _ _ _ _
                rw [HN2.out, HS2.out, hsb, Bool.true_or]
                exact HqE.out.setS bb true
              have hHeld : wN.drew.cell? ⟨gs, k, none⟩ = some (.int .i64 (bb : Int)) ∧ wN.drew.cell? ⟨bs, bb, none⟩ = some (.bool true) := ⟨(HSV.out _ HqE.out).1, HF5.out.1⟩
              clear hsb HqN
              refine wp_region_noPanic ?_
              refine wp_region_last 16 (fun W => W.cell? ⟨gs, k, none⟩ = some (.int .i64 (bb : Int)) ∧ W.cell? ⟨bs, bb, none⟩ = some (.bool true)) mixed ?_
              generalize wN.drew = wE at *
              refine wpAnyL_take (i := 0) (v := ?va16) (by simp; rfl) (by kernel_rfl) (by kernel_rfl) (by kernel_rfl) (by kernel_rfl) (fun _ _ _ h => h) (Or.inl ⟨by rfl, ?ya16⟩) hHeld ?ra16
              case ya16 => intro w hSw; clear hSw; go_simp; with_reducible rfl
              simp only [Act.put, List.setIfInBounds_toArray, List.set_cons_zero, List.set_cons_succ]
              refine wpAnyL_take (i := 1) (v := ?va17) (by simp; rfl) (by kernel_rfl) (by kernel_rfl) (by kernel_rfl) (by kernel_rfl) (fun _ _ _ h => h) (Or.inl ⟨by rfl, ?ya17⟩) hHeld ?ra17
              case ya17 => intro w hSw; clear hSw; go_simp; with_reducible rfl
              simp only [Act.put, List.setIfInBounds_toArray, List.set_cons_zero, List.set_cons_succ]
              refine wpAnyL_take (i := 2) (v := ?va18) (by simp; rfl) (by kernel_rfl) (by kernel_rfl) (by kernel_rfl) (by kernel_rfl) (fun _ _ _ h => h) (Or.inl ⟨by rfl, ?ya18⟩) hHeld ?ra18
              case ya18 => intro w hSw; clear hSw; go_simp; with_reducible rfl
              simp only [Act.put, List.setIfInBounds_toArray, List.set_cons_zero, List.set_cons_succ]
              refine wpAnyL_take (i := 3) (v := ?va19) (by simp; rfl) (by kernel_rfl) (by kernel_rfl) (by kernel_rfl) (by kernel_rfl) (fun _ _ _ h => h) (Or.inl ⟨by rfl, ?ya19⟩) hHeld ?ra19
              case ya19 => intro w hSw; have z := hSw.1; clear hSw; go_simp; with_reducible rfl
              simp only [Act.put, List.setIfInBounds_toArray, List.set_cons_zero, List.set_cons_succ]
              refine wpAnyL_take (i := 4) (v := ?va20) (by simp; rfl) (by kernel_rfl) (by kernel_rfl) (by kernel_rfl) (by kernel_rfl) (fun _ _ _ h => h) (Or.inl ⟨by rfl, ?ya20⟩) hHeld ?ra20
              case ya20 => intro w hSw; clear hSw; go_simp; with_reducible rfl
              simp only [Act.put, List.setIfInBounds_toArray, List.set_cons_zero, List.set_cons_succ]
              refine wpAnyL_take (i := 5) (v := ?va21) (by simp; rfl) (by kernel_rfl) (by kernel_rfl) (by kernel_rfl) (by kernel_rfl) (fun _ _ _ h => h) (Or.inl ⟨by rfl, ?ya21⟩) hHeld ?ra21
              case ya21 => intro w hSw; clear hSw; go_simp; with_reducible rfl
              simp only [Act.put, List.setIfInBounds_toArray, List.set_cons_zero, List.set_cons_succ]
              refine wpAnyL_take (i := 6) (v := ?va22) (by simp; rfl) (by kernel_rfl) (by kernel_rfl) (by kernel_rfl) (by kernel_rfl) (fun _ _ _ h => h) (Or.inl ⟨by rfl, ?ya22⟩) hHeld ?ra22
              case ya22 => intro w hSw; clear hSw; go_simp; with_reducible rfl
              simp only [Act.put, List.setIfInBounds_toArray, List.set_cons_zero, List.set_cons_succ]
              refine wpAnyL_take (i := 7) (v := ?va23) (by simp; rfl) (by kernel_rfl) (by kernel_rfl) (by kernel_rfl) (by kernel_rfl) (fun _ _ _ h => h) (Or.inl ⟨by rfl, ?ya23⟩) hHeld ?ra23
              case ya23 => intro w hSw; have z := hSw.1; clear hSw; go_simp; with_reducible rfl
              simp only [Act.put, List.setIfInBounds_toArray, List.set_cons_zero, List.set_cons_succ]
              refine wpAnyL_take (i := 8) (v := ?va24) (by simp; rfl) (by kernel_rfl) (by kernel_rfl) (by kernel_rfl) (by kernel_rfl) (fun _ _ _ h => h) (Or.inl ⟨by rfl, ?ya24⟩) hHeld ?ra24
              case ya24 => intro w hSw; clear hSw; go_simp; with_reducible rfl
              simp only [Act.put, List.setIfInBounds_toArray, List.set_cons_zero, List.set_cons_succ]
              refine wpAnyL_take (i := 9) (v := ?va25) (by simp; rfl) (by kernel_rfl) (by kernel_rfl) (by kernel_rfl) (by kernel_rfl) (fun _ _ _ h => h) (Or.inl ⟨by rfl, ?ya25⟩) hHeld ?ra25
              case ya25 => intro w hSw; have z := hSw.2; clear hSw; go_simp; with_reducible rfl
              simp only [Act.put, List.setIfInBounds_toArray, List.set_cons_zero, List.set_cons_succ]
              refine wpAnyL_take (i := 10) (v := ?va26) (by simp; rfl) (by kernel_rfl) (by kernel_rfl) (by kernel_rfl) (by kernel_rfl) (fun _ _ _ h => h) (Or.inl ⟨by rfl, ?ya26⟩) hHeld ?ra26
              case ya26 => intro w hSw; clear hSw; go_simp; with_reducible rfl
              simp only [Act.put, List.setIfInBounds_toArray, List.set_cons_zero, List.set_cons_succ]
              refine wpAnyL_take (i := 11) (v := undef) (by simp; rfl) (by kernel_rfl) (by kernel_rfl) (by kernel_rfl) (by kernel_rfl) (fun _ _ _ h => h) (Or.inr ⟨by rfl, rfl⟩) hHeld ?_
              simp only [Act.put, List.setIfInBounds_toArray, List.set_cons_zero, List.set_cons_succ]
              refine wpAnyL_take (i := 12) (v := undef) (by simp; rfl) (by kernel_rfl) (by kernel_rfl) (by kernel_rfl) (by kernel_rfl) (fun _ _ _ h => h) (Or.inr ⟨by rfl, rfl⟩) hHeld ?_
              simp only [Act.put, List.setIfInBounds_toArray, List.set_cons_zero, List.set_cons_succ]
              refine wpAnyL_take (i := 13) (v := undef) (by simp; rfl) (by kernel_rfl) (by kernel_rfl) (by kernel_rfl) (by kernel_rfl) (fun _ _ _ h => h) (Or.inr ⟨by rfl, rfl⟩) hHeld ?_
              simp only [Act.put, List.setIfInBounds_toArray, List.set_cons_zero, List.set_cons_succ]
              refine wpAnyL_take (i := 14) (v := ?va27) (by simp; rfl) (by kernel_rfl) (by kernel_rfl) (by kernel_rfl) (by kernel_rfl) (fun _ _ _ h => h) (Or.inl ⟨by rfl, ?ya27⟩) hHeld ?ra27
              case ya27 => intro w hSw; clear hSw; go_simp; with_reducible rfl
              simp only [Act.put, List.setIfInBounds_toArray, List.set_cons_zero, List.set_cons_succ]
              refine wpAnyL_take (i := 15) (v := ?va28) (by simp; rfl) (by kernel_rfl) (by kernel_rfl) (by kernel_rfl) (by kernel_rfl) (fun _ _ _ h => h) (Or.inl ⟨by rfl, ?ya28⟩) hHeld ?ra28
              case ya28 => intro w hSw; clear hSw; go_simp; with_reducible rfl
              simp only [Act.put, List.setIfInBounds_toArray, List.set_cons_zero, List.set_cons_succ]
              refine wpAnyL_ready (rs := [16]) (by kernel_rfl) (by simp) ?_
              refine AllReadyL.cons (by simp; rfl) (fun Kc hKc => ?_) AllReadyL.nil
              have q1 := HF5.out.1
              have q2 := HF5.out.2
              go_simp
              refine hKc.out _ _ (fun h => absurd rfl h) ?_
              clear hKc Kc hHeld q1 q2
              refine wpAnyL_done (by kernel_rfl) (NoPanic.normal ?_) _
              go_wp2
              go_roundw
              case rel => exact ⟨k + 1, q', m2, c', rfl, by congr 1, by omega, HML, HFN⟩
              case measure => simp [intOf]; omega
            | false =>
              have HF5 : Hid (wN.drew.cell? ⟨bs, bb, none⟩ = some (.bool false) ∧ wN.drew.frozen? ⟨bs, bb, none⟩ = false) := ⟨by rw [← hsb]; exact HqE.out.dr.cS (by rw [HSL.out]; exact hb8), HqE.out.dr.fS bb⟩
              have HFN : Hid (Dq w (wN.drew.setCell ⟨bs, bb, none⟩ (.bool (decide (a ≤ i)))) Q ve L (3 * (i : Int)) bn bs (nset N (R.take (k + 1)) ((i : Int) + 1)) (sset S (R.take (k + 1)) (decide (a ≤ i))) (.slice pt mt ct) T (.slice (some ⟨gs, 0, none⟩) ms cs6) R (.slice q' m2 c') f (k + 1)) := by
                show Dq _ _ _ _ _ _ _ _ _ _ _ _ _ _ _ _ _
                rw [HN2.out, HS2.out, hsb, Bool.false_or]
                exact HqE.out.setS bb _
              have hHeld : wN.drew.cell? ⟨gs, k, none⟩ = some (.int .i64 (bb : Int)) ∧ wN.drew.cell? ⟨bs, bb, none⟩ = some (.bool false) := ⟨(HSV.out _ HqE.out).1, HF5.out.1⟩
              clear hsb HqN
              refine wp_region_noPanic ?_
              refine wp_region_last 16 (fun W => W.cell? ⟨gs, k, none⟩ = some (.int .i64 (bb : Int)) ∧ W.cell? ⟨bs, bb, none⟩ = some (.bool false)) mixed ?_
              generalize wN.drew = wE at *
              refine wpAnyL_take (i := 0) (v := ?va29) (by simp; rfl) (by kernel_rfl) (by kernel_rfl) (by kernel_rfl) (by kernel_rfl) (fun _ _ _ h => h) (Or.inl ⟨by rfl, ?ya29⟩) hHeld ?ra29
              case ya29 => intro w hSw; clear hSw; go_simp; with_reducible rfl
              simp only [Act.put, List.setIfInBounds_toArray, List.set_cons_zero, List.set_cons_succ]
              refine wpAnyL_take (i := 1) (v := ?va30) (by simp; rfl) (by kernel_rfl) (by kernel_rfl) (by kernel_rfl) (by kernel_rfl) (fun _ _ _ h => h) (Or.inl ⟨by rfl, ?ya30⟩) hHeld ?ra30
              case ya30 => intro w hSw; clear hSw; go_simp; with_reducible rfl
              simp only [Act.put, List.setIfInBounds_toArray, List.set_cons_zero, List.set_cons_succ]
              refine wpAnyL_take (i := 2) (v := ?va31) (by simp; rfl) (by kernel_rfl) (by kernel_rfl) (by kernel_rfl) (by kernel_rfl) (fun _ _ _ h => h) (Or.inl ⟨by rfl, ?ya31⟩) hHeld ?ra31
              case ya31 => intro w hSw; clear hSw; go_simp; with_reducible rfl
              simp only [Act.put, List.setIfInBounds_toArray, List.set_cons_zero, List.set_cons_succ]
              refine wpAnyL_take (i := 3) (v := ?va32) (by simp; rfl) (by kernel_rfl) (by kernel_rfl) (by kernel_rfl) (by kernel_rfl) (fun _ _ _ h => h) (Or.inl ⟨by rfl, ?ya32⟩) hHeld ?ra32
              case ya32 => intro w hSw; have z := hSw.1; clear hSw; go_simp; with_reducible rfl
              simp only [Act.put, List.setIfInBounds_toArray, List.set_cons_zero, List.set_cons_succ]
              refine wpAnyL_take (i := 4) (v := ?va33) (by simp; rfl) (by kernel_rfl) (by kernel_rfl) (by kernel_rfl) (by kernel_rfl) (fun _ _ _ h => h) (Or.inl ⟨by rfl, ?ya33⟩) hHeld ?ra33
              case ya33 => intro w hSw; clear hSw; go_simp; with_reducible rfl
              simp only [Act.put, List.setIfInBounds_toArray, List.set_cons_zero, List.set_cons_succ]
              refine wpAnyL_take (i := 5) (v := ?va34) (by simp; rfl) (by kernel_rfl) (by kernel_rfl) (by kernel_rfl) (by kernel_rfl) (fun _ _ _ h => h) (Or.inl ⟨by rfl, ?ya34⟩) hHeld ?ra34
              case ya34 => intro w hSw; clear hSw; go_simp; with_reducible rfl
              simp only [Act.put, List.setIfInBounds_toArray, List.set_cons_zero, List.set_cons_succ]
              refine wpAnyL_take (i := 6) (v := ?va35) (by simp; rfl) (by kernel_rfl) (by kernel_rfl) (by kernel_rfl) (by kernel_rfl) (fun _ _ _ h => h) (Or.inl ⟨by rfl, ?ya35⟩) hHeld ?ra35
              case ya35 => intro w hSw; clear hSw; go_simp; with_reducible rfl
              simp only [Act.put, List.setIfInBounds_toArray, List.set_cons_zero, List.set_cons_succ]
              refine wpAnyL_take (i := 7) (v := ?va36) (by simp; rfl) (by kernel_rfl) (by kernel_rfl) (by kernel_rfl) (by kernel_rfl) (fun _ _ _ h => h) (Or.inl ⟨by rfl, ?ya36⟩) hHeld ?ra36
              case ya36 => intro w hSw; have z := hSw.1; clear hSw; go_simp; with_reducible rfl
              simp only [Act.put, List.setIfInBounds_toArray, List.set_cons_zero, List.set_cons_succ]
              refine wpAnyL_take (i := 8) (v := ?va37) (by simp; rfl) (by kernel_rfl) (by kernel_rfl) (by kernel_rfl) (by kernel_rfl) (fun _ _ _ h => h) (Or.inl ⟨by rfl, ?ya37⟩) hHeld ?ra37
              case ya37 => intro w hSw; clear hSw; go_simp; with_reducible rfl
              simp only [Act.put, List.setIfInBounds_toArray, List.set_cons_zero, List.set_cons_succ]
              refine wpAnyL_take (i := 9) (v := ?va38) (by simp; rfl) (by kernel_rfl) (by kernel_rfl) (by kernel_rfl) (by kernel_rfl) (fun _ _ _ h => h) (Or.inl ⟨by rfl, ?ya38⟩) hHeld ?ra38
              case ya38 => intro w hSw; have z := hSw.2; clear hSw; go_simp; with_reducible rfl
              simp only [Act.put, List.setIfInBounds_toArray, List.set_cons_zero, List.set_cons_succ]
              refine wpAnyL_take (i := 10) (v := ?va39) (by simp; rfl) (by kernel_rfl) (by kernel_rfl) (by kernel_rfl) (by kernel_rfl) (fun _ _ _ h => h) (Or.inl ⟨by rfl, ?ya39⟩) hHeld ?ra39
              case ya39 => intro w hSw; clear hSw; go_simp; with_reducible rfl
              simp only [Act.put, List.setIfInBounds_toArray, List.set_cons_zero, List.set_cons_succ]
              refine wpAnyL_take (i := 11) (v := ?va40) (by simp; rfl) (by kernel_rfl) (by kernel_rfl) (by kernel_rfl) (by kernel_rfl) (fun _ _ _ h => h) (Or.inl ⟨by rfl, ?ya40⟩) hHeld ?ra40
              case ya40 => intro w hSw; clear hSw; go_simp; with_reducible rfl
              simp only [Act.put, List.setIfInBounds_toArray, List.set_cons_zero, List.set_cons_succ]
              refine wpAnyL_take (i := 12) (v := ?va41) (by simp; rfl) (by kernel_rfl) (by kernel_rfl) (by kernel_rfl) (by kernel_rfl) (fun _ _ _ h => h) (Or.inl ⟨by rfl, ?ya41⟩) hHeld ?ra41
              case ya41 => intro w hSw; clear hSw; go_simp; with_reducible rfl
              simp only [Act.put, List.setIfInBounds_toArray, List.set_cons_zero, List.set_cons_succ]
              refine wpAnyL_take (i := 13) (v := ?va42) (by simp; rfl) (by kernel_rfl) (by kernel_rfl) (by kernel_rfl) (by kernel_rfl) (fun _ _ _ h => h) (Or.inl ⟨by rfl, ?ya42⟩) hHeld ?ra42
              case ya42 => intro w hSw; clear hSw; go_simp; with_reducible rfl
              simp only [Act.put, List.setIfInBounds_toArray, List.set_cons_zero, List.set_cons_succ]
              refine wpAnyL_take (i := 14) (v := ?va43) (by simp; rfl) (by kernel_rfl) (by kernel_rfl) (by kernel_rfl) (by kernel_rfl) (fun _ _ _ h => h) (Or.inl ⟨by rfl, ?ya43⟩) hHeld ?ra43
              case ya43 => intro w hSw; clear hSw; go_simp; with_reducible rfl
              simp only [Act.put, List.setIfInBounds_toArray, List.set_cons_zero, List.set_cons_succ]
              refine wpAnyL_take (i := 15) (v := ?va44) (by simp; rfl) (by kernel_rfl) (by kernel_rfl) (by kernel_rfl) (by kernel_rfl) (fun _ _ _ h => h) (Or.inl ⟨by rfl, ?ya44⟩) hHeld ?ra44
              case ya44 => intro w hSw; clear hSw; go_simp; with_reducible rfl
              simp only [Act.put, List.setIfInBounds_toArray, List.set_cons_zero, List.set_cons_succ]
              refine wpAnyL_ready (rs := [16]) (by kernel_rfl) (by simp) ?_
              refine AllReadyL.cons (by simp; rfl) (fun Kc hKc => ?_) AllReadyL.nil
              have q1 := HF5.out.1
              have q2 := HF5.out.2
              go_simp
              refine hKc.out _ _ (fun h => absurd rfl h) ?_
              clear hKc Kc hHeld q1 q2
              refine wpAnyL_done (by kernel_rfl) (NoPanic.normal ?_) _
              go_wp2
              go_roundw
              case rel => exact ⟨k + 1, q', m2, c', rfl, by congr 1, by omega, HML, HFN⟩
              case measure => simp [intOf]; omega
          · have ek : k = R.length := by have := HMS.out; omega
            have HQF : Hid (Dq w wr Q ve L (3 * (i : Int)) bn bs (nset N R ((i : Int) + 1)) (sset S R (decide (a ≤ i))) (.slice pt mt ct) T (.slice ps ms cs6) R (.slice pi mi ci) f k ∧ IOwn wr w.heap.size (.slice pi mi ci) (imsR R f)) := by
              have h1 := HQ.out
              have h2 := h1.im
              rw [List.take_of_length_le (Nat.le_of_eq ek.symm)] at h1 h2
              exact ⟨h1, h2⟩
            have HIW : Hid (ImsWf (imsR R f)) := imsR_wf HR.out (by rw [HFE.out]; exact HFB.out)
            obtain ⟨p9, c9, e9, hM9, -, -⟩ := IOwn.in HQF.out.2 HIW.out
            have e9' : pi = p9 ∧ mi = (imsR R f).length ∧ ci = c9 := by injection e9 with a b c; exact ⟨a, b, c⟩
            have HMI2 : Hid (MIn wr pi mi (imsR R f)) := by rw [e9'.1, e9'.2.1]; exact hM9
            have hmi : mi ≤ 8 := by have := HMI.out; omega
            have hP1 := put_at HQF.out.1.dr.cac HS6.out.ok (c := ci) HMI2.out (by omega) (fun a' ha' _ => HQF.out.1.apart (by rw [ha'])) (ps := 3 * (i : Int) + 2) (by omega)
            rw [put_first HR.out i (by omega), show putL 8 L (3 * (i : Int)) (imsR R f) (3 * (i : Int) + 2) = lays L (imsR R f) (3 * (i : Int) + 2) from if_pos (put_first HR.out i (by omega)), show putX 8 (3 * (i : Int)) (imsR R f) (3 * (i : Int) + 2) = 3 * (i : Int) + 2 + 1 from if_pos (put_first HR.out i (by omega)), show 3 * (i : Int) + 2 + 1 = 3 * (i : Int) + 3 by omega] at hP1
            have HP1 : Hid (Calls Try.prog 7 #[.pointer (some ⟨Q, 0, none⟩), .slice pi mi ci, .int .u64 (3 * (i : Int) + 2)] wr fun e w' => e = .returned (.int .i64 0) ∧ ∃ ve', Wrt wr w' Q 8 ve ve' (lays L (imsR R f) (3 * (i : Int) + 2)) (3 * (i : Int) + 3)) := hP1
            have hw1 : IntKind.i64.wrap (3 * (i : Int)) = 3 * (i : Int) := by rw [IntKind.wrap_i64]; omega
            have hw2 : IntKind.i64.wrap (3 * (i : Int) + 2) = 3 * (i : Int) + 2 := by rw [IntKind.wrap_i64]; omega
            have hw3 : IntKind.u64.wrap (3 * (i : Int) + 2) = 3 * (i : Int) + 2 := by rw [IntKind.wrap_u64]; omega
            clear ek e9 e9' hM9 hP1 HQ
            go_wp2_with fail
            refine HP1.out.mono ?_
            rintro e w7 ⟨rfl, ve7, hW7⟩
            have HQ7 : Hid (Dq w w7 Q ve7 (lays L (imsR R f) (3 * (i : Int) + 2)) (3 * (i : Int) + 3) bn bs (nset N R ((i : Int) + 1)) (sset S R (decide (a ≤ i))) (.slice pt mt ct) T (.slice ps ms cs6) R (.slice pi mi ci) f k) := HQF.out.1.put hW7
            have HM7 : Hid (MIn w7 pi mi (imsR R f)) := HMI2.out.far hW7.kept (fun a' ha' _ => HQF.out.1.apart (by rw [ha']))
            have HOK7 : Hid (Okc 8 (lays L (imsR R f) (3 * (i : Int) + 2)) (3 * (i : Int) + 3)) := by
              have := (HS6.out.ok.lays (p := 3 * (i : Int) + 2) (by omega) (imsR R f) HIW.out (fun x hx => by simpa using List.any_eq_false.1 (imsR_in HR.out) x hx)).next (p := 3 * (i : Int) + 2) (by omega) (by omega)
              rw [show 3 * (i : Int) + 2 + 1 = 3 * (i : Int) + 3 by omega] at this
              exact this
            have hP2 := put_at HQ7.out.dr.cac HOK7.out (c := ci) HM7.out (by omega) (fun a' ha' _ => HQ7.out.apart (by rw [ha'])) (ps := 3 * (i : Int) + 2) (by omega)
            rw [put_again HR.out i, show putL 8 (lays L (imsR R f) (3 * (i : Int) + 2)) (3 * (i : Int) + 3) (imsR R f) (3 * (i : Int) + 2) = lays L (imsR R f) (3 * (i : Int) + 2) from if_neg (by rw [put_again HR.out i]; decide), show putX 8 (3 * (i : Int) + 3) (imsR R f) (3 * (i : Int) + 2) = 3 * (i : Int) + 3 from if_neg (by rw [put_again HR.out i]; decide)] at hP2
            have HP2 : Hid (Calls Try.prog 7 #[.pointer (some ⟨Q, 0, none⟩), .slice pi mi ci, .int .u64 (3 * (i : Int) + 2)] w7 fun e w' => e = .returned (.int .i64 30) ∧ ∃ ve', Wrt w7 w' Q 8 ve7 ve' (lays L (imsR R f) (3 * (i : Int) + 2)) (3 * (i : Int) + 3)) := hP2
            clear hW7 HQF HMI2 HP1 hP2
            go_wp2_with fail
            refine HP2.out.mono ?_
            rintro e w8 ⟨rfl, ve8, hW8⟩
            have HFIN : Hid (Std w w8 Q ve8 (lays L (imsR R f) (3 * (i : Int) + 2)) bn bs (nset N R ((i : Int) + 1)) (sset S R (decide (a ≤ i))) (.slice pt mt ct) T fl (i + 1) a (i + 1)) := by
              have h1 := (HQ7.out.put hW8).dr
              rw [HFE.out] at h1
              show Std _ _ _ _ _ _ _ _ _ _ _ _ _ _ _
              rw [HFE.out]
              exact HS6.out.step (by omega) HFB.out HR.out h1
            clear hW8 HQ7 HM7 HP2 HOK7
            go_wp2_with fail
            go_roundw
            case rel => exact ⟨i + 1, pt, mt, ct, ve8, _, T, _, _, rfl, by congr 1, by omega, HFIN⟩
            case measure => simp [intOf]; omega
    · have HSn : Hid (Std w wr Q ve L bn bs N S (.slice pt mt ct) T fl n a n) := by
        have h1 := HS.out
        have h2 : i = n := by omega
        show Std _ _ _ _ _ _ _ _ _ _ _ _ _ _ _
        subst h2
        exact h1
      clear HS
      go_upto_if 129 with fail
      go_cut [8] from 129 to 131 (fun v W => ∃ (pt : Option Addr) (mt ct : Nat) (T : List En), v = .slice pt mt ct ∧ Hid (Std w W Q ve L bn bs N S (.slice pt mt ct) T fl n a (n + 1)))
      case first =>
        by_cases hia : n = a
        · have hb : ((a : Int) == (n : Int)) = true := by rw [beq_iff_eq]; omega
          have HIA : Hid (n = a) := hia
          clear hia
          go_wp2_with fail
          refine (entries_any (HSn.out.dr.cac.stands HSn.out.ok)).mono ?_
          rintro e w5 ⟨v5, rfl, ho5, b5⟩
          obtain ⟨p5, m5, c5, rfl⟩ : ∃ p5 m5 c5, v5 = .slice p5 m5 c5 := by obtain ⟨p5, c5, e5, -, -⟩ := O.own_form ho5; exact ⟨p5, _, c5, e5⟩
          have HS5 : Hid (Std w w5 Q ve L bn bs N S (.slice p5 m5 c5) L fl n a (n + 1)) := by
            have h1 := HSn.out
            have h2 := HIA.out
            show Std _ _ _ _ _ _ _ _ _ _ _ _ _ _ _
            rw [← h2] at h1 ⊢
            exact h1.tell b5 ho5
          clear ho5 b5
          go_wp2_with fail
          go_meet
          case rel => exact ⟨p5, m5, c5, L, rfl, HS5⟩
        · have hb : ((a : Int) == (n : Int)) = false := by rw [beq_eq_false_iff_ne]; omega
          have HS5 : Hid (Std w wr Q ve L bn bs N S (.slice pt mt ct) T fl n a (n + 1)) := HSn.out.pass hia
          clear hia
          go_wp2_with fail
          go_meet
          case rel => exact ⟨pt, mt, ct, T, rfl, HS5⟩
      case rest =>
        obtain ⟨pt, mt, ct, T, rfl, HS5⟩ := hcut
        clear HSn
        have HTL : Hid (Tld T N a) := by
          rcases HS5.out.told with ⟨h1, h2⟩ | ⟨h1, h2⟩
          · omega
          · exact h2
        have HD0 : Hid (Dr w wc Q ve L (3 * (n : Int)) bn bs N S (.slice pt mt ct) T) := HS5.out.dr
        have HOK : Hid (Okc 8 L (3 * (n : Int))) := HS5.out.ok
        have HNW : Hid (Nws L N fl n) := HS5.out.nw
        have HSN : Hid (Snc N S a) := HS5.out.sn
        have HTW : Hid (EnsWf T ∧ T.length ≤ 64) := ⟨HS5.out.wf, HS5.out.few⟩
        clear HS5
        go_wp2_with fail
        go_loopw [17] (fun v W => ∃ b : Nat, v = .int .i64 (b : Int) ∧ b ≤ 8 ∧ Hid (Dr w W Q ve L (3 * (n : Int)) bn bs N S (.slice pt mt ct) T)) (fun v _ => 8 - (intOf v).toNat)
        case atStart => exact ⟨0, rfl, by omega, HD0⟩
        case round =>
          obtain ⟨b, rfl, hb8, HD⟩ := hrel
          clear HD0
          by_cases hlt : b < 8
          · have gb := HNW.out.get b hlt
            have rb := HNW.out.rng b hlt
            obtain ⟨nb, hnb⟩ : ∃ nb, nb = N.getD b 0 := ⟨_, rfl⟩
            rw [← hnb] at gb rb
            have HCN : Hid (∀ W, Dr w W Q ve L (3 * (n : Int)) bn bs N S (.slice pt mt ct) T → W.cell? ⟨bn, b, none⟩ = some (.int .i64 nb)) := fun W hW => by rw [hnb]; exact hW.cN (by rw [HNW.out.len]; exact hlt)
            have l1 : (b : Int) < 8 := by omega
            have l0 : (0 : Int) ≤ (b : Int) := by omega
            clear hnb
            by_cases hz : nb = 0
            · have HGV : Hid (getV L b = en0 ∧ getB L b = false) := by
                rw [if_pos hz] at gb
                exact ⟨by unfold getV; rw [gb]; rfl, by unfold getB; rw [gb]; rfl⟩
              subst hz
              clear gb rb
              go_wp2_with fail
              refine (get_at HD.out.cac HOK.out b).mono ?_
              rintro e w5 ⟨rfl, b5⟩
              rw [HGV.out.1, HGV.out.2]
              obtain ⟨u6, w6, hu6, hz6, hl6, hb6, -⟩ := newE w5 en0 (zs_len 32)
              have A6 : Hid ((Instr.alloc 44 true (.tuple #[])).run Try.prog w5 = .ok (.pointer (some ⟨w5.heap.size, 0, none⟩)) u6) := hu6
              have T6 : Hid ((Instr.storeAt 44 (.pointer (some ⟨w5.heap.size, 0, none⟩)) (.agg (ecells en0).toArray)).run Try.prog u6 = .ok () w6) := hz6
              have HD6 : Hid (Dr w w6.drew Q ve L (3 * (n : Int)) bn bs N S (.slice pt mt ct) T) := ((HD.out.later b5).later hb6).later (show Below w6.heap.size w6 w6.drew from below_drawn 1)
              have HLX : Hid (True) := trivial
              have HC6 : Hid (∀ W, Below w6.drew.heap.size w6.drew W → W.cell? ⟨bn, b, none⟩ = some (.int .i64 0)) := fun W hW => HCN.out W (HD6.out.later hW)
              clear hu6 hz6 hl6 hb6 b5 HLX
              go_wp2_with ((with_reducible refine at_ops ?_); (first | ((refine wpList_alloc_is (by rfl) 44 rfl A6.out ?_); simp only [Act.put, List.setIfInBounds_toArray, List.set_cons_zero, List.set_cons_succ]) | ((refine wpList_store_is (by rfl) 44 rfl rfl rfl T6.out ?_); simp only [Act.put])))
              refine wp_region_noPanic ?_
              refine wp_region_held_drew (S := fun W => Below w6.drew.heap.size w6.drew W) (by kernel_rfl) (Below.refl _ _) (fun hHeld => ?_)
              generalize w6.drew = wD at *
              refine wpAnyH_take (i := 0) (v := ?va45) (by simp; rfl) (by kernel_rfl) (by kernel_rfl) (by kernel_rfl) (fun _ _ _ h => h) (Or.inl ⟨by rfl, ?ya45⟩) hHeld ?ra45
              case ya45 => intro w hSw; clear hSw; go_simp; with_reducible rfl
              simp only [Act.put, List.setIfInBounds_toArray, List.set_cons_zero, List.set_cons_succ]
              refine wpAnyH_take (i := 1) (v := ?va46) (by simp; rfl) (by kernel_rfl) (by kernel_rfl) (by kernel_rfl) (fun _ _ _ h => h) (Or.inl ⟨by rfl, ?ya46⟩) hHeld ?ra46
              case ya46 => intro w hSw; clear hSw; go_simp; with_reducible rfl
              simp only [Act.put, List.setIfInBounds_toArray, List.set_cons_zero, List.set_cons_succ]
              refine wpAnyH_take (i := 2) (v := ?va47) (by simp; rfl) (by kernel_rfl) (by kernel_rfl) (by kernel_rfl) (fun _ _ _ h => h) (Or.inl ⟨by rfl, ?ya47⟩) hHeld ?ra47
              case ya47 => intro w hSw; clear hSw; go_simp; with_reducible rfl
              simp only [Act.put, List.setIfInBounds_toArray, List.set_cons_zero, List.set_cons_succ]
              refine wpAnyH_take (i := 3) (v := ?va48) (by simp; rfl) (by kernel_rfl) (by kernel_rfl) (by kernel_rfl) (fun _ _ _ h => h) (Or.inl ⟨by rfl, ?ya48⟩) hHeld ?ra48
              case ya48 => intro w hSw; have z := HC6.out w hSw; clear hSw; go_simp; with_reducible rfl
              simp only [Act.put, List.setIfInBounds_toArray, List.set_cons_zero, List.set_cons_succ]
              refine wpAnyH_take (i := 4) (v := ?va49) (by simp; rfl) (by kernel_rfl) (by kernel_rfl) (by kernel_rfl) (fun _ _ _ h => h) (Or.inl ⟨by rfl, ?ya49⟩) hHeld ?ra49
              case ya49 => intro w hSw; clear hSw; go_simp; with_reducible rfl
              simp only [Act.put, List.setIfInBounds_toArray, List.set_cons_zero, List.set_cons_succ]
              refine wpAnyH_take (i := 5) (v := ?va50) (by simp; rfl) (by kernel_rfl) (by kernel_rfl) (by kernel_rfl) (fun _ _ _ h => h) (Or.inl ⟨by rfl, ?ya50⟩) hHeld ?ra50
              case ya50 => intro w hSw; clear hSw; go_simp; with_reducible rfl
              simp only [Act.put, List.setIfInBounds_toArray, List.set_cons_zero, List.set_cons_succ]
              refine wpAnyH_take (i := 6) (v := ?va51) (by simp; rfl) (by kernel_rfl) (by kernel_rfl) (by kernel_rfl) (fun _ _ _ h => h) (Or.inl ⟨by rfl, ?ya51⟩) hHeld ?ra51
              case ya51 => intro w hSw; clear hSw; go_simp; with_reducible rfl
              simp only [Act.put, List.setIfInBounds_toArray, List.set_cons_zero, List.set_cons_succ]
              refine wpAnyH_take (i := 7) (v := ?va52) (by simp; rfl) (by kernel_rfl) (by kernel_rfl) (by kernel_rfl) (fun _ _ _ h => h) (Or.inl ⟨by rfl, ?ya52⟩) hHeld ?ra52
              case ya52 => intro w hSw; clear hSw; go_simp; with_reducible rfl
              simp only [Act.put, List.setIfInBounds_toArray, List.set_cons_zero, List.set_cons_succ]
              refine wpAnyH_take (i := 8) (v := ?va53) (by simp; rfl) (by kernel_rfl) (by kernel_rfl) (by kernel_rfl) (fun _ _ _ h => h) (Or.inl ⟨by rfl, ?ya53⟩) hHeld ?ra53
              case ya53 => intro w hSw; clear hSw; go_simp; with_reducible rfl
              simp only [Act.put, List.setIfInBounds_toArray, List.set_cons_zero, List.set_cons_succ]
              refine wpAnyH_take (i := 9) (v := undef) (by simp; rfl) (by kernel_rfl) (by kernel_rfl) (by kernel_rfl) (fun _ _ _ h => h) (Or.inr ⟨by rfl, rfl⟩) hHeld ?_
              simp only [Act.put, List.setIfInBounds_toArray, List.set_cons_zero, List.set_cons_succ]
              refine wpAnyH_take (i := 10) (v := undef) (by simp; rfl) (by kernel_rfl) (by kernel_rfl) (by kernel_rfl) (fun _ _ _ h => h) (Or.inr ⟨by rfl, rfl⟩) hHeld ?_
              simp only [Act.put, List.setIfInBounds_toArray, List.set_cons_zero, List.set_cons_succ]
              refine wpAnyH_take (i := 11) (v := undef) (by simp; rfl) (by kernel_rfl) (by kernel_rfl) (by kernel_rfl) (fun _ _ _ h => h) (Or.inr ⟨by rfl, rfl⟩) hHeld ?_
              simp only [Act.put, List.setIfInBounds_toArray, List.set_cons_zero, List.set_cons_succ]
              refine wpAnyH_take (i := 12) (v := undef) (by simp; rfl) (by kernel_rfl) (by kernel_rfl) (by kernel_rfl) (fun _ _ _ h => h) (Or.inr ⟨by rfl, rfl⟩) hHeld ?_
              simp only [Act.put, List.setIfInBounds_toArray, List.set_cons_zero, List.set_cons_succ]
              refine wpAnyH_take (i := 13) (v := undef) (by simp; rfl) (by kernel_rfl) (by kernel_rfl) (by kernel_rfl) (fun _ _ _ h => h) (Or.inr ⟨by rfl, rfl⟩) hHeld ?_
              simp only [Act.put, List.setIfInBounds_toArray, List.set_cons_zero, List.set_cons_succ]
              refine wpAnyH_take (i := 14) (v := undef) (by simp; rfl) (by kernel_rfl) (by kernel_rfl) (by kernel_rfl) (fun _ _ _ h => h) (Or.inr ⟨by rfl, rfl⟩) hHeld ?_
              simp only [Act.put, List.setIfInBounds_toArray, List.set_cons_zero, List.set_cons_succ]
              refine wpAnyH_take (i := 15) (v := undef) (by simp; rfl) (by kernel_rfl) (by kernel_rfl) (by kernel_rfl) (fun _ _ _ h => h) (Or.inr ⟨by rfl, rfl⟩) hHeld ?_
              simp only [Act.put, List.setIfInBounds_toArray, List.set_cons_zero, List.set_cons_succ]
              refine wpAnyH_take (i := 16) (v := undef) (by simp; rfl) (by kernel_rfl) (by kernel_rfl) (by kernel_rfl) (fun _ _ _ h => h) (Or.inr ⟨by rfl, rfl⟩) hHeld ?_
              simp only [Act.put, List.setIfInBounds_toArray, List.set_cons_zero, List.set_cons_succ]
              refine wpAnyH_take (i := 17) (v := undef) (by simp; rfl) (by kernel_rfl) (by kernel_rfl) (by kernel_rfl) (fun _ _ _ h => h) (Or.inr ⟨by rfl, rfl⟩) hHeld ?_
              simp only [Act.put, List.setIfInBounds_toArray, List.set_cons_zero, List.set_cons_succ]
              refine wpAnyH_take (i := 18) (v := undef) (by simp; rfl) (by kernel_rfl) (by kernel_rfl) (by kernel_rfl) (fun _ _ _ h => h) (Or.inr ⟨by rfl, rfl⟩) hHeld ?_
              simp only [Act.put, List.setIfInBounds_toArray, List.set_cons_zero, List.set_cons_succ]
              refine wpAnyH_take (i := 19) (v := undef) (by simp; rfl) (by kernel_rfl) (by kernel_rfl) (by kernel_rfl) (fun _ _ _ h => h) (Or.inr ⟨by rfl, rfl⟩) hHeld ?_
              simp only [Act.put, List.setIfInBounds_toArray, List.set_cons_zero, List.set_cons_succ]
              refine wpAnyH_take (i := 20) (v := undef) (by simp; rfl) (by kernel_rfl) (by kernel_rfl) (by kernel_rfl) (fun _ _ _ h => h) (Or.inr ⟨by rfl, rfl⟩) hHeld ?_
              simp only [Act.put, List.setIfInBounds_toArray, List.set_cons_zero, List.set_cons_succ]
              refine wpAnyH_take (i := 21) (v := undef) (by simp; rfl) (by kernel_rfl) (by kernel_rfl) (by kernel_rfl) (fun _ _ _ h => h) (Or.inr ⟨by rfl, rfl⟩) hHeld ?_
              simp only [Act.put, List.setIfInBounds_toArray, List.set_cons_zero, List.set_cons_succ]
              refine wpAnyH_take (i := 22) (v := undef) (by simp; rfl) (by kernel_rfl) (by kernel_rfl) (by kernel_rfl) (fun _ _ _ h => h) (Or.inr ⟨by rfl, rfl⟩) hHeld ?_
              simp only [Act.put, List.setIfInBounds_toArray, List.set_cons_zero, List.set_cons_succ]
              refine wpAnyH_take (i := 23) (v := undef) (by simp; rfl) (by kernel_rfl) (by kernel_rfl) (by kernel_rfl) (fun _ _ _ h => h) (Or.inr ⟨by rfl, rfl⟩) hHeld ?_
              simp only [Act.put, List.setIfInBounds_toArray, List.set_cons_zero, List.set_cons_succ]
              refine wpAnyH_take (i := 24) (v := undef) (by simp; rfl) (by kernel_rfl) (by kernel_rfl) (by kernel_rfl) (fun _ _ _ h => h) (Or.inr ⟨by rfl, rfl⟩) hHeld ?_
              simp only [Act.put, List.setIfInBounds_toArray, List.set_cons_zero, List.set_cons_succ]
              refine wpAnyH_take (i := 25) (v := undef) (by simp; rfl) (by kernel_rfl) (by kernel_rfl) (by kernel_rfl) (fun _ _ _ h => h) (Or.inr ⟨by rfl, rfl⟩) hHeld ?_
              simp only [Act.put, List.setIfInBounds_toArray, List.set_cons_zero, List.set_cons_succ]
              refine wpAnyH_take (i := 26) (v := undef) (by simp; rfl) (by kernel_rfl) (by kernel_rfl) (by kernel_rfl) (fun _ _ _ h => h) (Or.inr ⟨by rfl, rfl⟩) hHeld ?_
              simp only [Act.put, List.setIfInBounds_toArray, List.set_cons_zero, List.set_cons_succ]
              refine wpAnyH_take (i := 27) (v := undef) (by simp; rfl) (by kernel_rfl) (by kernel_rfl) (by kernel_rfl) (fun _ _ _ h => h) (Or.inr ⟨by rfl, rfl⟩) hHeld ?_
              simp only [Act.put, List.setIfInBounds_toArray, List.set_cons_zero, List.set_cons_succ]
              refine wpAnyH_take (i := 28) (v := undef) (by simp; rfl) (by kernel_rfl) (by kernel_rfl) (by kernel_rfl) (fun _ _ _ h => h) (Or.inr ⟨by rfl, rfl⟩) hHeld ?_
              simp only [Act.put, List.setIfInBounds_toArray, List.set_cons_zero, List.set_cons_succ]
              refine wpAnyH_take (i := 29) (v := ?va54) (by simp; rfl) (by kernel_rfl) (by kernel_rfl) (by kernel_rfl) (fun _ _ _ h => h) (Or.inl ⟨by rfl, ?ya54⟩) hHeld ?ra54
              case ya54 => intro w hSw; clear hSw; go_simp; with_reducible rfl
              simp only [Act.put, List.setIfInBounds_toArray, List.set_cons_zero, List.set_cons_succ]
              refine wpAnyH_take (i := 30) (v := ?va55) (by simp; rfl) (by kernel_rfl) (by kernel_rfl) (by kernel_rfl) (fun _ _ _ h => h) (Or.inl ⟨by rfl, ?ya55⟩) hHeld ?ra55
              case ya55 => intro w hSw; clear hSw; go_simp; with_reducible rfl
              simp only [Act.put, List.setIfInBounds_toArray, List.set_cons_zero, List.set_cons_succ]
              refine wpAnyH_done (by kernel_rfl) (NoPanic.normal ?_) _
              clear hHeld
              go_wp2
              go_roundw
              case rel => exact ⟨b + 1, by congr 1, by omega, HD6⟩
              case measure => simp [intOf]; omega
            · obtain ⟨j, hj⟩ : ∃ j : Nat, nb = (j : Int) + 1 := ⟨nb.toNat - 1, by omega⟩
              have hjn : j < n := by omega
              obtain ⟨cb, co, rfl, hcc⟩ := HI.out.cells (by omega)
              obtain ⟨qs, ls, cs, ss, -, -, -, h4⟩ := hcc j (by omega)
              have HF4 : Hid (∀ W, Below w.heap.size w W → W.cell? ⟨cb, co + j * 2 + 1, none⟩ = some (.int .u8 (fl j))) := fun W hW => (hW.cell (World.block_lt_of_cell? w _ h4)).trans h4
              obtain ⟨f, hf⟩ : ∃ f, f = fl j := ⟨_, rfl⟩
              have HGV : Hid (getV L b = ⟨(b : Int), valS f b, 3 * ((j : Int) + 1) - 1⟩ ∧ getB L b = true) := by
                rw [if_neg hz, hj, show ((j : Int) + 1).toNat - 1 = j by omega, ← hf] at gb
                exact ⟨by unfold getV; rw [gb]; rfl, by unfold getB; rw [gb]; rfl⟩
              rw [← hf] at HF4
              subst hj
              clear gb rb hz hcc h4 hf
              go_wp2_with fail
              refine (get_at HD.out.cac HOK.out b).mono ?_
              rintro e w5 ⟨rfl, b5⟩
              rw [HGV.out.1, HGV.out.2]
              obtain ⟨u6, w6, hu6, hz6, hl6, hb6, -⟩ := newE w5 ⟨(b : Int), valS f b, 3 * ((j : Int) + 1) - 1⟩ (valS_len f b)
              have A6 : Hid ((Instr.alloc 44 true (.tuple #[])).run Try.prog w5 = .ok (.pointer (some ⟨w5.heap.size, 0, none⟩)) u6) := hu6
              have T6 : Hid ((Instr.storeAt 44 (.pointer (some ⟨w5.heap.size, 0, none⟩)) (.agg (ecells ⟨(b : Int), valS f b, 3 * ((j : Int) + 1) - 1⟩).toArray)).run Try.prog u6 = .ok () w6) := hz6
              have HD6 : Hid (Dr w w6.drew Q ve L (3 * (n : Int)) bn bs N S (.slice pt mt ct) T) := ((HD.out.later b5).later hb6).later (show Below w6.heap.size w6 w6.drew from below_drawn 1)
              have HL6 : Hid (∀ W, Below w6.drew.heap.size w6.drew W → (Instr.loadAt 44 (.pointer (some ⟨w5.heap.size, 0, none⟩))).run Try.prog W = .ok (.agg (ecells ⟨(b : Int), valS f b, 3 * ((j : Int) + 1) - 1⟩).toArray) W) := fun W hW => LAt.loadE etC (LAt.later (LAt.later hl6 (show Below w6.heap.size w6 w6.drew from below_drawn 1)) hW) (valS_len f b)
              have HC6 : Hid (∀ W, Below w6.drew.heap.size w6.drew W → W.cell? ⟨bn, b, none⟩ = some (.int .i64 ((j : Int) + 1)) ∧ W.cell? ⟨cb, co + j * 2 + 1, none⟩ = some (.int .u8 f)) := fun W hW => ⟨HCN.out W (HD6.out.later hW), HF4.out W (HD6.out.later hW).bel⟩
              have HNE : Hid (∀ W, (binOp .neq 44 (.agg (ecells ⟨(b : Int), valS f b, 3 * ((j : Int) + 1) - 1⟩).toArray) (.agg (ecells ⟨(b : Int), valS f b, 3 * ((j : Int) + 1) - 1⟩).toArray)).run Try.prog W = .ok (.bool false) W) := fun W => by
                have := neqE etC W ⟨(b : Int), valS f b, 3 * ((j : Int) + 1) - 1⟩ ⟨(b : Int), valS f b, 3 * ((j : Int) + 1) - 1⟩ (valS_len f b) (valS_len f b)
                rw [(enB_iff _ _).2 rfl] at this
                exact this
              have gt1 : (0 : Int) < (j : Int) + 1 := by omega
              have hwa : IntKind.i64.wrap ((j : Int) + 1 - 1) = (j : Int) := by rw [IntKind.wrap_i64]; omega
              have hwe : IntKind.i64.wrap (j : Int) = (j : Int) := by rw [IntKind.wrap_i64]; omega
              have hwb : IntKind.i64.wrap (3 * ((j : Int) + 1)) = 3 * ((j : Int) + 1) := by rw [IntKind.wrap_i64]; omega
              have hwc : IntKind.i64.wrap (3 * ((j : Int) + 1) - 1) = 3 * ((j : Int) + 1) - 1 := by rw [IntKind.wrap_i64]; omega
              have hwd : IntKind.u64.wrap (3 * ((j : Int) + 1) - 1) = 3 * ((j : Int) + 1) - 1 := by rw [IntKind.wrap_u64]; omega
              have jm : (j : Int) < (m : Int) := by omega
              have j0 : (0 : Int) ≤ (j : Int) := by omega
              clear hu6 hz6 hl6 hb6 b5 HF4
              generalize w5.heap.size = bx at *
              go_wp2_with ((with_reducible refine at_ops ?_); (first | ((refine wpList_alloc_is (by rfl) 44 rfl A6.out ?_); simp only [Act.put, List.setIfInBounds_toArray, List.set_cons_zero, List.set_cons_succ]) | ((refine wpList_store_is (by rfl) 44 rfl rfl rfl T6.out ?_); simp only [Act.put])))
              refine wp_region_noPanic ?_
              refine wp_region_held_drew (S := fun W => Below w6.drew.heap.size w6.drew W) (by kernel_rfl) (Below.refl _ _) (fun hHeld => ?_)
              generalize w6.drew = wD at *
              refine wpAnyH_take (i := 0) (v := ?va56) (by simp; rfl) (by kernel_rfl) (by kernel_rfl) (by kernel_rfl) (fun _ _ _ h => h) (Or.inl ⟨by rfl, ?ya56⟩) hHeld ?ra56
              case ya56 => intro w hSw; clear hSw; go_simp; with_reducible rfl
              simp only [Act.put, List.setIfInBounds_toArray, List.set_cons_zero, List.set_cons_succ]
              refine wpAnyH_take (i := 1) (v := ?va57) (by simp; rfl) (by kernel_rfl) (by kernel_rfl) (by kernel_rfl) (fun _ _ _ h => h) (Or.inl ⟨by rfl, ?ya57⟩) hHeld ?ra57
              case ya57 => intro w hSw; clear hSw; go_simp; with_reducible rfl
              simp only [Act.put, List.setIfInBounds_toArray, List.set_cons_zero, List.set_cons_succ]
              refine wpAnyH_take (i := 2) (v := ?va58) (by simp; rfl) (by kernel_rfl) (by kernel_rfl) (by kernel_rfl) (fun _ _ _ h => h) (Or.inl ⟨by rfl, ?ya58⟩) hHeld ?ra58
              case ya58 => intro w hSw; clear hSw; go_simp; with_reducible rfl
              simp only [Act.put, List.setIfInBounds_toArray, List.set_cons_zero, List.set_cons_succ]
              refine wpAnyH_take (i := 3) (v := ?va59) (by simp; rfl) (by kernel_rfl) (by kernel_rfl) (by kernel_rfl) (fun _ _ _ h => h) (Or.inl ⟨by rfl, ?ya59⟩) hHeld ?ra59
              case ya59 => intro w hSw; have z := (HC6.out w hSw).1; clear hSw; go_simp; with_reducible rfl
              simp only [Act.put, List.setIfInBounds_toArray, List.set_cons_zero, List.set_cons_succ]
              refine wpAnyH_take (i := 4) (v := ?va60) (by simp; rfl) (by kernel_rfl) (by kernel_rfl) (by kernel_rfl) (fun _ _ _ h => h) (Or.inl ⟨by rfl, ?ya60⟩) hHeld ?ra60
              case ya60 => intro w hSw; clear hSw; go_simp; with_reducible rfl
              simp only [Act.put, List.setIfInBounds_toArray, List.set_cons_zero, List.set_cons_succ]
              refine wpAnyH_take (i := 5) (v := ?va61) (by simp; rfl) (by kernel_rfl) (by kernel_rfl) (by kernel_rfl) (fun _ _ _ h => h) (Or.inl ⟨by rfl, ?ya61⟩) hHeld ?ra61
              case ya61 => intro w hSw; clear hSw; go_simp; with_reducible rfl
              simp only [Act.put, List.setIfInBounds_toArray, List.set_cons_zero, List.set_cons_succ]
              refine wpAnyH_take (i := 6) (v := ?va62) (by simp; rfl) (by kernel_rfl) (by kernel_rfl) (by kernel_rfl) (fun _ _ _ h => h) (Or.inl ⟨by rfl, ?ya62⟩) hHeld ?ra62
              case ya62 => intro w hSw; clear hSw; go_simp; with_reducible rfl
              simp only [Act.put, List.setIfInBounds_toArray, List.set_cons_zero, List.set_cons_succ]
              refine wpAnyH_take (i := 7) (v := ?va63) (by simp; rfl) (by kernel_rfl) (by kernel_rfl) (by kernel_rfl) (fun _ _ _ h => h) (Or.inl ⟨by rfl, ?ya63⟩) hHeld ?ra63
              case ya63 => intro w hSw; clear hSw; go_simp; with_reducible rfl
              simp only [Act.put, List.setIfInBounds_toArray, List.set_cons_zero, List.set_cons_succ]
              refine wpAnyH_take (i := 8) (v := ?va64) (by simp; rfl) (by kernel_rfl) (by kernel_rfl) (by kernel_rfl) (fun _ _ _ h => h) (Or.inl ⟨by rfl, ?ya64⟩) hHeld ?ra64
              case ya64 => intro w hSw; clear hSw; go_simp; with_reducible rfl
              simp only [Act.put, List.setIfInBounds_toArray, List.set_cons_zero, List.set_cons_succ]
              refine wpAnyH_take (i := 9) (v := _) (by simp; rfl) (by kernel_rfl) (by kernel_rfl) (by kernel_rfl) (fun _ _ _ h => h) (yields_load_is (x := .tmp 18) (p := .pointer (some ⟨bx, 0, none⟩)) (v := .agg (ecells ⟨(b : Int), valS f b, 3 * ((j : Int) + 1) - 1⟩).toArray) (by rfl) 44 rfl rfl (fun W hW => HL6.out W hW)) hHeld ?_
              simp only [Act.put, List.setIfInBounds_toArray, List.set_cons_zero, List.set_cons_succ]
              refine wpAnyH_take (i := 10) (v := ?va65) (by simp; rfl) (by kernel_rfl) (by kernel_rfl) (by kernel_rfl) (fun _ _ _ h => h) (Or.inl ⟨by rfl, ?ya65⟩) hHeld ?ra65
              case ya65 => intro w hSw; clear hSw; go_simp; with_reducible rfl
              simp only [Act.put, List.setIfInBounds_toArray, List.set_cons_zero, List.set_cons_succ]
              refine wpAnyH_take (i := 11) (v := ?va66) (by simp; rfl) (by kernel_rfl) (by kernel_rfl) (by kernel_rfl) (fun _ _ _ h => h) (Or.inl ⟨by rfl, ?ya66⟩) hHeld ?ra66
              case ya66 => intro w hSw; clear hSw; go_simp; with_reducible rfl
              simp only [Act.put, List.setIfInBounds_toArray, List.set_cons_zero, List.set_cons_succ]
              refine wpAnyH_take (i := 12) (v := ?va67) (by simp; rfl) (by kernel_rfl) (by kernel_rfl) (by kernel_rfl) (fun _ _ _ h => h) (Or.inl ⟨by rfl, ?ya67⟩) hHeld ?ra67
              case ya67 => intro w hSw; clear hSw; go_simp; with_reducible rfl
              simp only [Act.put, List.setIfInBounds_toArray, List.set_cons_zero, List.set_cons_succ]
              refine wpAnyH_take (i := 13) (v := ?va68) (by simp; rfl) (by kernel_rfl) (by kernel_rfl) (by kernel_rfl) (fun _ _ _ h => h) (Or.inl ⟨by rfl, ?ya68⟩) hHeld ?ra68
              case ya68 => intro w hSw; clear hSw; go_simp; with_reducible rfl
              simp only [Act.put, List.setIfInBounds_toArray, List.set_cons_zero, List.set_cons_succ]
              refine wpAnyH_take (i := 14) (v := ?va69) (by simp; rfl) (by kernel_rfl) (by kernel_rfl) (by kernel_rfl) (fun _ _ _ h => h) (Or.inl ⟨by rfl, ?ya69⟩) hHeld ?ra69
              case ya69 => intro w hSw; have z := (HC6.out w hSw).1; clear hSw; go_simp; with_reducible rfl
              simp only [Act.put, List.setIfInBounds_toArray, List.set_cons_zero, List.set_cons_succ]
              refine wpAnyH_take (i := 15) (v := ?va70) (by simp; rfl) (by kernel_rfl) (by kernel_rfl) (by kernel_rfl) (fun _ _ _ h => h) (Or.inl ⟨by rfl, ?ya70⟩) hHeld ?ra70
              case ya70 => intro w hSw; clear hSw; go_simp; with_reducible rfl
              simp only [Act.put, List.setIfInBounds_toArray, List.set_cons_zero, List.set_cons_succ]
              refine wpAnyH_take (i := 16) (v := ?va71) (by simp; rfl) (by kernel_rfl) (by kernel_rfl) (by kernel_rfl) (fun _ _ _ h => h) (Or.inl ⟨by rfl, ?ya71⟩) hHeld ?ra71
              case ya71 => intro w hSw; clear hSw; go_simp; with_reducible rfl
              simp only [Act.put, List.setIfInBounds_toArray, List.set_cons_zero, List.set_cons_succ]
              refine wpAnyH_take (i := 17) (v := ?va72) (by simp; rfl) (by kernel_rfl) (by kernel_rfl) (by kernel_rfl) (fun _ _ _ h => h) (Or.inl ⟨by rfl, ?ya72⟩) hHeld ?ra72
              case ya72 => intro w hSw; clear hSw; go_simp; with_reducible rfl
              simp only [Act.put, List.setIfInBounds_toArray, List.set_cons_zero, List.set_cons_succ]
              refine wpAnyH_take (i := 18) (v := ?va73) (by simp; rfl) (by kernel_rfl) (by kernel_rfl) (by kernel_rfl) (fun _ _ _ h => h) (Or.inl ⟨by rfl, ?ya73⟩) hHeld ?ra73
              case ya73 => intro w hSw; have z := (HC6.out w hSw).2; clear hSw; go_simp; with_reducible rfl
              simp only [Act.put, List.setIfInBounds_toArray, List.set_cons_zero, List.set_cons_succ]
              refine wpAnyH_take (i := 19) (v := ?va74) (by simp; rfl) (by kernel_rfl) (by kernel_rfl) (by kernel_rfl) (fun _ _ _ h => h) (Or.inl ⟨by rfl, ?ya74⟩) hHeld ?ra74
              case ya74 => intro w hSw; clear hSw; go_simp; with_reducible rfl
              simp only [Act.put, List.setIfInBounds_toArray, List.set_cons_zero, List.set_cons_succ]
              refine wpAnyH_take (i := 21) (v := ?va75) (by simp; rfl) (by kernel_rfl) (by kernel_rfl) (by kernel_rfl) (fun _ _ _ h => h) (Or.inl ⟨by rfl, ?ya75⟩) hHeld ?ra75
              case ya75 => intro w hSw; clear hSw; go_simp; with_reducible rfl
              simp only [Act.put, List.setIfInBounds_toArray, List.set_cons_zero, List.set_cons_succ]
              refine wpAnyH_take (i := 22) (v := ?va76) (by simp; rfl) (by kernel_rfl) (by kernel_rfl) (by kernel_rfl) (fun _ _ _ h => h) (Or.inl ⟨by rfl, ?ya76⟩) hHeld ?ra76
              case ya76 => intro w hSw; clear hSw; go_simp; with_reducible rfl
              simp only [Act.put, List.setIfInBounds_toArray, List.set_cons_zero, List.set_cons_succ]
              refine wpAnyH_take (i := 23) (v := ?va77) (by simp; rfl) (by kernel_rfl) (by kernel_rfl) (by kernel_rfl) (fun _ _ _ h => h) (Or.inl ⟨by rfl, ?ya77⟩) hHeld ?ra77
              case ya77 => intro w hSw; have z := (HC6.out w hSw).1; clear hSw; go_simp; with_reducible rfl
              simp only [Act.put, List.setIfInBounds_toArray, List.set_cons_zero, List.set_cons_succ]
              refine wpAnyH_take (i := 24) (v := ?va78) (by simp; rfl) (by kernel_rfl) (by kernel_rfl) (by kernel_rfl) (fun _ _ _ h => h) (Or.inl ⟨by rfl, ?ya78⟩) hHeld ?ra78
              case ya78 => intro w hSw; clear hSw; go_simp; with_reducible rfl
              simp only [Act.put, List.setIfInBounds_toArray, List.set_cons_zero, List.set_cons_succ]
              refine wpAnyH_take (i := 25) (v := ?va79) (by simp; rfl) (by kernel_rfl) (by kernel_rfl) (by kernel_rfl) (fun _ _ _ h => h) (Or.inl ⟨by rfl, ?ya79⟩) hHeld ?ra79
              case ya79 => intro w hSw; clear hSw; go_simp; with_reducible rfl
              simp only [Act.put, List.setIfInBounds_toArray, List.set_cons_zero, List.set_cons_succ]
              refine wpAnyH_take (i := 26) (v := ?va80) (by simp; rfl) (by kernel_rfl) (by kernel_rfl) (by kernel_rfl) (fun _ _ _ h => h) (Or.inl ⟨by rfl, ?ya80⟩) hHeld ?ra80
              case ya80 => intro w hSw; clear hSw; go_simp; with_reducible rfl
              simp only [Act.put, List.setIfInBounds_toArray, List.set_cons_zero, List.set_cons_succ]
              refine wpAnyH_ready (rs := [20]) (by kernel_rfl) (by simp) ?_
              refine AllReadyH.cons (by simp; rfl) (fun Kc hKc => ?_) AllReadyH.nil
              go_simp
              refine (value_at f (b : Int) (by omega) wD).mono ?_
              rintro e wV ⟨rfl, bV⟩
              have HD7 : Hid (Dr w wV Q ve L (3 * (n : Int)) bn bs N S (.slice pt mt ct) T) := HD6.out.later bV
              refine hKc.out _ _ bV (fun hHeld => ?_)
              clear hKc Kc bV
              refine wpAnyH_take (i := 27) (v := _) (by simp; rfl) (by kernel_rfl) (by kernel_rfl) (by kernel_rfl) (fun _ _ _ h => h) (yields_build_is (vs := [(0, .int .i64 (b : Int)), (1, .agg (U8 (valS f b)).toArray), (2, .int .u64 (3 * ((j : Int) + 1) - 1))]) (by rfl) 44 rfl (by rfl) (fun w => buildE etC w b (valS f b) (3 * ((j : Int) + 1) - 1) (valS_len f b))) hHeld ?_
              simp only [Act.put, List.setIfInBounds_toArray, List.set_cons_zero, List.set_cons_succ]
              refine wpAnyH_take (i := 28) (v := _) (by simp; rfl) (by kernel_rfl) (by kernel_rfl) (by kernel_rfl) (fun _ _ _ h => h) (yields_neq_is (xs := (ecells ⟨(b : Int), valS f b, 3 * ((j : Int) + 1) - 1⟩).toArray) (ys := (ecells ⟨(b : Int), valS f b, 3 * ((j : Int) + 1) - 1⟩).toArray) (by rfl) 44 rfl rfl rfl etC.eqg HNE.out) hHeld ?_
              simp only [Act.put, List.setIfInBounds_toArray, List.set_cons_zero, List.set_cons_succ]
              refine wpAnyH_take (i := 29) (v := ?va81) (by simp; rfl) (by kernel_rfl) (by kernel_rfl) (by kernel_rfl) (fun _ _ _ h => h) (Or.inl ⟨by rfl, ?ya81⟩) hHeld ?ra81
              case ya81 => intro w hSw; clear hSw; go_simp; with_reducible rfl
              simp only [Act.put, List.setIfInBounds_toArray, List.set_cons_zero, List.set_cons_succ]
              refine wpAnyH_take (i := 30) (v := ?va82) (by simp; rfl) (by kernel_rfl) (by kernel_rfl) (by kernel_rfl) (fun _ _ _ h => h) (Or.inl ⟨by rfl, ?ya82⟩) hHeld ?ra82
              case ya82 => intro w hSw; clear hSw; go_simp; with_reducible rfl
              simp only [Act.put, List.setIfInBounds_toArray, List.set_cons_zero, List.set_cons_succ]
              refine wpAnyH_done (by kernel_rfl) (NoPanic.normal ?_) _
              clear hHeld hwa hwb hwc hwd hwe
              go_wp2
              go_roundw
              case rel => exact ⟨b + 1, by congr 1, by omega, HD7⟩
              case measure => simp [intOf]; omega
          · go_wp2_with fail
            refine (copy_at HD.out.cac HOK.out).mono ?_
            rintro e w5 ⟨Qd, vd, rfl, hN⟩
            have HD5 : Hid (Dr w w5 Q ve L (3 * (n : Int)) bn bs N S (.slice pt mt ct) T) := HD.out.later hN.below
            have HC5 : Hid (CAt w5 Qd 8 vd L (3 * (n : Int))) := hN.at'
            have HSEP : Hid (¬ (Qd = Q ∨ ve.ownBlock = some Qd) ∧ (∀ g, vd.ownBlock = some g → ¬ (g = Q ∨ ve.ownBlock = some g))) := by
              have q1 := HD.out.cac.lt
              have q2 := fun g (hg : ve.ownBlock = some g) => (HD.out.cac.row.lt g hg).2
              refine ⟨?_, fun g hg => ?_⟩
              · have := hN.q
                rintro (e | e)
                · omega
                · have := q2 _ e; omega
              · have := hN.row g hg
                rintro (e | e)
                · omega
                · have := q2 _ e; omega
            have HNB : Hid (wr.heap.size ≤ Qd ∧ (∀ g, vd.ownBlock = some g → wr.heap.size ≤ g) ∧ Q < wr.heap.size ∧ (∀ g, ve.ownBlock = some g → g < wr.heap.size) ∧ w.heap.size ≤ wr.heap.size) := ⟨hN.q, hN.row, HD.out.cac.lt, fun g hg => (HD.out.cac.row.lt g hg).2, HD.out.bel.size⟩
            clear hN HD
            obtain ⟨p9, c9, e9, hE9, -, -⟩ := EOwn.in HD5.out.told HTW.out.1
            have e9' : pt = p9 ∧ mt = T.length ∧ ct = c9 := by injection e9 with a b c; exact ⟨a, b, c⟩
            have HET : Hid (EIn w5 pt mt T) := by rw [e9'.1, e9'.2.1]; exact hE9
            have hmt : mt ≤ 64 := by rw [e9'.2.1]; exact HTW.out.2
            have hDr := drop_call HD5.out.cac HOK.out (c := ct) HET.out (by omega) (fun a' ha' h0 => by
              rintro (e | e)
              · exact O.own_not HD5.out.told HD5.out.cac.st (by decide) (by rw [ha', ← e]; rfl)
              · exact HD5.out.sep _ (by rw [ha']; rfl) e)
            have HDR : Hid (Calls Try.prog 12 #[.pointer (some ⟨Q, 0, none⟩), .slice pt mt ct] w5 fun e w' => e = .returned (.int .i64 (drpsN L T : Int)) ∧ ∃ ve', Wrt w5 w' Q 8 ve ve' (drps L T) (3 * (n : Int))) := hDr
            clear e9 e9' hE9 hDr
            go_wp2_with fail
            refine HDR.out.mono ?_
            rintro e w6 ⟨rfl, ve6, hW6⟩
            have HD6 : Hid (Dr w w6 Q ve6 (drps L T) (3 * (n : Int)) bn bs N S (.slice pt mt ct) T ∧ CAt w6 Qd 8 vd L (3 * (n : Int)) ∧ (w.heap.size ≤ Qd ∨ True)) := ⟨HD5.out.put hW6, HC5.out.far hW6.kept HSEP.out.1 HSEP.out.2, .inr trivial⟩
            have HOK6 : Hid (Okc 8 (drps L T) (3 * (n : Int))) := HOK.out.drops T
            have HLF : Hid (∀ b : Nat, b < 8 → getB (drps L T) b = S.getD b false) := fun b hb => left_is HTL.out HNW.out HSN.out HOK.out.up b hb
            have HSLN : Hid (S.length = 8) := HSN.out.len
            have HSX : Hid (¬ (Q = Qd ∨ vd.ownBlock = some Q) ∧ (∀ g, ve6.ownBlock = some g → ¬ (g = Qd ∨ vd.ownBlock = some g)) ∧ (∀ b, b < w.heap.size → ¬ (b = Qd ∨ vd.ownBlock = some b))) := by
              have n1 := HNB.out.1; have n2 := HNB.out.2.1; have n3 := HNB.out.2.2.1; have n4 := HNB.out.2.2.2.1; have n5 := HNB.out.2.2.2.2
              refine ⟨?_, fun g hg => ?_, fun b hb => ?_⟩
              · rintro (e | e)
                · omega
                · have := n2 _ e; omega
              · rcases hW6.new g hg with e1 | e1
                · have := n4 g e1
                  rintro (e | e)
                  · omega
                  · have := n2 _ e; omega
                · rintro (e | e)
                  · have := HC5.out.lt; omega
                  · have := (HC5.out.row.lt _ e).2; omega
              · rintro (e | e)
                · omega
                · have := n2 _ e; omega
            clear hW6 HDR HD5 HC5 HSEP HET HNB
            obtain ⟨D, hD⟩ : ∃ D, D = drps L T := ⟨_, rfl⟩
            rw [← hD] at HD6 HOK6 HLF
            clear hD
            go_wp2_with fail
            go_loopw [21, 22] (fun v v2 W => ∃ (b l : Nat), v = .int .i64 (l : Int) ∧ v2 = .int .i64 (b : Int) ∧ b ≤ 8 ∧ l ≤ 64 ∧ Hid (l = ple D b) ∧ Hid (Dr w W Q ve6 D (3 * (n : Int)) bn bs N S (.slice pt mt ct) T ∧ CAt W Qd 8 vd L (3 * (n : Int)))) (fun _ v _ => 8 - (intOf v).toNat)
            case atStart => exact ⟨0, 0, rfl, rfl, by omega, by omega, ((ple_none fun x hx => (HOK6.out.ins x hx).1).symm : 0 = ple D ((0 : Nat) : Int)), (⟨HD6.out.1, HD6.out.2.1⟩ : Dr w w6 Q ve6 D (3 * (n : Int)) bn bs N S (.slice pt mt ct) T ∧ CAt w6 Qd 8 vd L (3 * (n : Int)))⟩
            case round =>
              obtain ⟨b, l, rfl, rfl, hb8, hl64, HPL, HDW⟩ := hrel
              by_cases hlt : b < 8
              · have HGB : Hid (getB D b = S.getD b false) := HLF.out b hlt
                have l1 : (b : Int) < 8 := by omega
                have l0 : (0 : Int) ≤ (b : Int) := by omega
                have HPS2 : Hid (ple D ((b + 1 : Nat) : Int) = l + if getB D b = true then 1 else 0) := by show _ = _; rw [ple_succ HOK6.out.up b, HPL.out]; rfl
                have HP64 : Hid (ple D ((b + 1 : Nat) : Int) ≤ 64) := Nat.le_trans (ple_le _ _) HOK6.out.few
                go_wp2_with fail
                refine (get_at HDW.out.1.cac HOK6.out b).mono ?_
                rintro e w7 ⟨rfl, b7⟩
                obtain ⟨u8, w8, hu8, hz8, hl8, hb8', -⟩ := newE w7 (getV D b) (getV_len HOK6.out.wf b)
                have A8 : Hid ((Instr.alloc 44 true (.tuple #[])).run Try.prog w7 = .ok (.pointer (some ⟨w7.heap.size, 0, none⟩)) u8) := hu8
                have T8 : Hid ((Instr.storeAt 44 (.pointer (some ⟨w7.heap.size, 0, none⟩)) (.agg (ecells (getV D b)).toArray)).run Try.prog u8 = .ok () w8) := hz8
                have HD8 : Hid (Dr w w8 Q ve6 D (3 * (n : Int)) bn bs N S (.slice pt mt ct) T ∧ CAt w8 Qd 8 vd L (3 * (n : Int))) := ⟨(HDW.out.1.later b7).later hb8', (HDW.out.2.later b7).later hb8'⟩
                have zs8 := HD8.out.1.cS (b := b) (by rw [HSLN.out]; exact hlt)
                rw [← HGB.out] at zs8
                clear hu8 hz8 hl8 hb8' b7 HDW
                cases hg : getB D b with
                | true =>
                  rw [hg] at zs8
                  have HL2 : Hid (l + 1 = ple D ((b + 1 : Nat) : Int)) := by show _ = _; rw [HPS2.out, hg]; rfl
                  have hl2 : l + 1 ≤ 64 := by have := HL2.out; have := HP64.out; omega
                  clear hg
                  go_wp2_with ((with_reducible refine at_ops ?_); (first | ((refine wpList_alloc_is (by rfl) 44 rfl A8.out ?_); simp only [Act.put, List.setIfInBounds_toArray, List.set_cons_zero, List.set_cons_succ]) | ((refine wpList_store_is (by rfl) 44 rfl rfl rfl T8.out ?_); simp only [Act.put])))
                  go_roundw
                  case rel => exact ⟨b + 1, l + 1, by congr 1, by congr 1, by omega, hl2, HL2, HD8⟩
                  case measure => simp [intOf]; omega
                | false =>
                  rw [hg] at zs8
                  have HL2 : Hid (l = ple D ((b + 1 : Nat) : Int)) := by show _ = _; rw [HPS2.out, hg]; rfl
                  clear hg
                  go_wp2_with ((with_reducible refine at_ops ?_); (first | ((refine wpList_alloc_is (by rfl) 44 rfl A8.out ?_); simp only [Act.put, List.setIfInBounds_toArray, List.set_cons_zero, List.set_cons_succ]) | ((refine wpList_store_is (by rfl) 44 rfl rfl rfl T8.out ?_); simp only [Act.put])))
                  go_roundw
                  case rel => exact ⟨b + 1, l, rfl, by congr 1, by omega, hl64, HL2, HD8⟩
                  case measure => simp [intOf]; omega
              · have HLEN : Hid (l = D.length) := by
                  have h1 := HPL.out
                  have h2 : b = 8 := by omega
                  rw [h2, ple_all fun x hx => (HOK6.out.ins x hx).2] at h1
                  exact h1
                clear HPL
                go_wp2_with fail
                refine (entries_any (HDW.out.2.stands HOK.out)).mono ?_
                rintro e w7 ⟨vl, rfl, ho7, b7⟩
                obtain ⟨pl, cl, rfl, hE7, -, -⟩ := EOwn.in ho7 HOK.out.wf
                have HC7 : Hid (CAt w7 Q 8 ve6 D (3 * (n : Int)) ∧ CAt w7 Qd 8 vd L (3 * (n : Int)) ∧ Below w.heap.size w w7 ∧ w.heap.size ≤ Q) := ⟨HDW.out.1.cac.later b7, HDW.out.2.later b7, below_then HDW.out.1.bel b7, HDW.out.1.lq⟩
                have hDr := drop_call (HDW.out.2.later b7) HOK.out (c := cl) hE7 (by have := HOK.out.few; omega) (fun a' ha' h0 => by
                  have hgb : (Value.slice pl L.length cl).ownBlock = some a'.block := by rw [ha']; rfl
                  have h1 := (ho7.lt _ hgb).1
                  rintro (e | e)
                  · have := HDW.out.2.lt; omega
                  · have := (HDW.out.2.row.lt _ e).2; omega)
                rw [(drps_self L).1, (drps_self L).2] at hDr
                have HDR : Hid (Calls Try.prog 12 #[.pointer (some ⟨Qd, 0, none⟩), .slice pl L.length cl] w7 fun e w' => e = .returned (.int .i64 (L.length : Int)) ∧ ∃ ve', Wrt w7 w' Qd 8 vd ve' [] (3 * (n : Int))) := hDr
                have hLf := HOK.out.few
                clear hDr ho7 hE7 b7 HDW
                go_wp2_with fail
                refine HDR.out.mono ?_
                rintro e w8 ⟨rfl, vd8, hW8⟩
                have HC8 : Hid (CAt w8 Q 8 ve6 D (3 * (n : Int)) ∧ CAt w8 Qd 8 vd8 [] (3 * (n : Int)) ∧ Below w.heap.size w w8) := ⟨HC7.out.1.far hW8.kept HSX.out.1 HSX.out.2.1, hW8.at', hW8.kept.into HC7.out.2.2.1 HSX.out.2.2 (Nat.le_refl _)⟩
                have HO0 : Hid (Okc 8 [] (3 * (n : Int))) := by
                  have := HOK.out.drops L
                  rw [(drps_self L).1] at this
                  exact this
                have hbe : (((D.length : Nat) : Int) == (l : Int)) = true := by rw [beq_iff_eq, HLEN.out]
                have hbl : (((L.length : Nat) : Int) == ((L.length : Nat) : Int)) = true := by simp
                clear hW8 HDR HC7
                go_wp2_with fail
                refine (len_at HC8.out.1).mono ?_
                rintro e w9 ⟨rfl, rfl⟩
                go_wp2_with fail
                refine (len_at HC8.out.2.1).mono ?_
                rintro e w10 ⟨rfl, rfl⟩
                go_wp2_with fail
                refine (entries_any (HC8.out.2.1.stands HO0.out)).mono ?_
                rintro e w11 ⟨vz, rfl, ho11, b11⟩
                obtain ⟨pz, cz, rfl, -, -⟩ := O.own_form ho11
                have HB11 : Hid (Below w.heap.size w w11) := below_then HC8.out.2.2 b11
                clear ho11 b11
                go_wp2
                go_ret
                exact ⟨rfl, HB11.out⟩
end Go.Proofs.Ythcpnfelnonhnaa
