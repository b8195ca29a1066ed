/-
  HomeKeeps walked.
-/
import Derived.Test.YtpenddnmmfpdjaaDoorTd
import Derived.Test.YtpenddnmmfpdjaaDoorTb
namespace Go.Proofs.YtpenddnmmfpdjaaDoor
open Go.RowKit

/-- with all that waits written, each sector is its newest write -/
theorem setl_newk {ws : List Wr} {d : List Int} {n i : Nat} (hd : d.length = 64 * n) (hw : Fit n ws) (hi : i < n) : ∀ k, k ≤ ws.length → sec (setl (fun _ => true) ws d k) i = newk ws d i k
  | 0, _ => rfl
  | k + 1, h => by
    have hk : k < ws.length := by omega
    have ih := setl_newk hd hw hi k (by omega)
    have hf := hw.at k hk
    rw [setl_step _ ws d k hk, newk_step ws d i k hk, if_pos rfl, sec_put (setl_length hd hw k) hf.1 hf.2.1 hi, ih]
    by_cases c : i = ws[k].s
    · rw [if_pos c, if_pos c.symm]
    · rw [if_neg c, if_neg (fun e => c e.symm)]
theorem newest_flush {ws : List Wr} {d : List Int} {n i : Nat} (hd : d.length = 64 * n) (hw : Fit n ws) (hi : i < n) : newest [] (settle (fun _ => true) ws d) i = newest ws d i := by
  rw [newest_nil]
  exact setl_newk hd hw hi _ (Nat.le_refl _)
theorem ld_flush {s : Sup} {n : Nat} {ws : List Wr} {d : List Int} (hd : d.length = 64 * n) (hw : Fit n ws) (b : Int) : ldS s n [] (settle (fun _ => true) ws d) b = ldS s n ws d b := by
  by_cases h : rbS s n b = 0
  · obtain ⟨_, h0, h1⟩ := rbS_in h
    rw [ldS_yes _ _ h, ldS_yes _ _ h, newest_flush hd hw (by omega)]
  · rw [ldS_no _ _ h, ldS_no _ _ h]
theorem al_flush {s : Sup} {n : Nat} {ws : List Wr} {d : List Int} (hd : d.length = 64 * n) (hw : Fit n ws) : alS s n [] (settle (fun _ => true) ws d) = alS s n ws d := by
  have hv : ∀ k, vals s n [] (settle (fun _ => true) ws d) k = vals s n ws d k := fun k => by
    unfold vals
    apply List.map_congr_left
    intro i _
    rw [ld_flush hd hw]
  have ha : ∀ k, allB s n [] (settle (fun _ => true) ws d) k ↔ allB s n ws d k := fun k => by
    rw [allB_iff, allB_iff]
    constructor
    · intro h i hi; have := h i hi; rwa [ld_flush hd hw] at this
    · intro h i hi; rw [ld_flush hd hw]; exact h i hi
  unfold alS
  by_cases c : rfS s n = 0
  · rw [if_pos c, if_pos c, hv]
    by_cases c2 : allB s n ws d s.bl.toNat
    · rw [if_pos c2, if_pos ((ha _).2 c2)]
    · rw [if_neg c2, if_neg (fun h => c2 ((ha _).1 h))]
  · rw [if_neg c, if_neg c]
theorem all_sv {s : Sup} {n : Int} {ws : List Wr} {d : List Int} {k : Nat} (b : Int) {v : List Int} (hv : v.length = 32) (h : allB s n ws d k) : allB s n (svW s n ws b v) d k := allB_iff.2 fun i hi => by
  by_cases c : ((i : Nat) : Int) = b
  · by_cases hr : rbS s n b = 0
    · rw [c, ld_sv hr hv]
    · rw [svW_no _ _ hr]; exact allB_iff.1 h i hi
  · rw [ld_sv_other c]; exact allB_iff.1 h i hi

/-- one12 -/
def one12 : List Int := 1 :: 2 :: zs 30
theorem one12_len : one12.length = 32 := rfl
theorem one12_bytes : Bytes one12 := Bytes.cons (by omega) (Bytes.cons (by omega) (zs_bytes 30))
theorem build12 (w : World) : (Instr.build 23 #[(0, .int .u8 1), (1, .int .u8 2)]).run Tryd.prog w = .ok (.agg (U8 one12).toArray) w := run_build w 23 _ _ (by kernel_rfl)
theorem VIn.kept {w w' : World} {S : Nat → Prop} {p : Option Addr} {n : Nat} {vs : List (List Int)} (h : VIn w p n vs) (hk : Kept S w w') (hs : ∀ a, p = some a → ¬ S a.block) : VIn w' p n vs :=
  ⟨h.len, h.each, fun h0 => by
    obtain ⟨b, o, e, hlt, hc⟩ := h.cells h0
    exact ⟨b, o, e, Nat.lt_of_lt_of_le hlt hk.size, fun i hi => rangeAt_same (hc i hi) (hk.block b hlt (hs _ e))⟩⟩
theorem own_base_le {w : World} {base e size n c : Nat} {p : Option Addr} {xs : List Value} (h : w.ownsRow base e size (.slice p n c) n xs) : ∀ a, p = some a → base ≤ a.block := fun a ha => by
  obtain ⟨p', c', e, _, hsome⟩ := own_slice h
  simp only [Value.slice.injEq, true_and] at e
  obtain ⟨rfl, rfl⟩ := e
  obtain ⟨g, rfl⟩ := hsome a ha
  subst ha
  exact (own_blk h).2.2.2
/-- what is kept in sight: the disk, the configuration, the value -/
structure KS (w0 w : World) (S : Nat → Prop) (s : Sup) (v : List Int) (p n : Nat) (d : List Int) (ws : List Wr) : Prop where
  dsk : Dsk w S p n d ws
  box : CAt w w0.heap.size s
  val : VAt w (w0.heap.size + 1) v
  lo : ∀ k, S k → w0.heap.size + 2 ≤ k
  hi : ∀ k, S k → k < w.heap.size
  below : Below w0.heap.size w0 w
theorem KS.later {w0 w w' : World} {S : Nat → Prop} {s : Sup} {v : List Int} {p n : Nat} {d : List Int} {ws : List Wr} (h : KS w0 w S s v p n d ws) (hb : Below w.heap.size w w') : KS w0 w' S s v p n d ws :=
  ⟨h.dsk.later hb, LAt.later h.box hb, LAt.later h.val hb, h.lo, fun k hk => Nat.lt_of_lt_of_le (h.hi k hk) hb.size, below_then h.below hb⟩
theorem KS.turn {w0 w w' : World} {S : Nat → Prop} {s : Sup} {v : List Int} {p n : Nat} {d d' : List Int} {ws ws' : List Wr} (h : KS w0 w S s v p n d ws) (hd : Dsk w' (More S w) p n d' ws') (hk : Kept S w w') : KS w0 w' (fun k => S k ∨ (w.heap.size ≤ k ∧ k < w'.heap.size)) s v p n d' ws' :=
  ⟨hd.mono (fun _ hk hs => hs.elim .inl (fun h => .inr ⟨h, hk⟩)), (hk.block _ (LAt.lt h.box) (fun c => by have := h.lo _ c; omega)).trans h.box, (hk.block _ (LAt.lt h.val) (fun c => by have := h.lo _ c; omega)).trans h.val,
    fun k hs => by have := h.below.size; have := LAt.lt h.val; rcases hs with hs | hs; exact h.lo k hs; omega,
    fun k hs => by have := hk.size; rcases hs with hs | hs; exact Nat.lt_of_lt_of_le (h.hi k hs) hk.size; exact hs.2,
    h.below.trans (hk.below h.below.size (fun k hs => by have := h.lo k hs; omega))⟩
theorem KS.load39 {w0 w : World} {S : Nat → Prop} {s : Sup} {v : List Int} {p n : Nat} {d : List Int} {ws : List Wr} (h : KS w0 w S s v p n d ws) : (Instr.loadAt 39 (.pointer (some ⟨w0.heap.size, 0, none⟩))).run Tryd.prog w = .ok (.agg (ccells s).toArray) w := CAt.load23 h.box

set_option maxHeartbeats 400000 in
set_option maxRecDepth 100000 in
theorem homeKeeps_bad (s : Sup) (hc : ¬ MayC s) (b : Int) (v : List Int) (M : Int) (w : World) (ht : Tab w) :
    Calls Tryd.prog 6 #[.agg (ccells s).toArray, .int .i64 b, .agg (U8 v).toArray, .int .i64 M] w fun e w' => e = .returned (.bool true) ∧ Below w.heap.size w w' := by
  obtain ⟨w0, hw0⟩ : ∃ x, x = (w.alloc (.cells (ccells s).toArray 39)).alloc (.cells (U8 v).toArray 23) := ⟨_, rfl⟩
  have ew := hw0.symm
  have B0 : Hid (Below w.heap.size w w0) := by rw [hw0]; exact below_then (below_alloc w _) (below_alloc _ _)
  have C0 : Hid (CAt w0 w.heap.size s) := by rw [hw0]; exact LAt.later (LAt.new 39 w (ccells s)) (below_alloc _ _)
  have L1 : Hid (_) := CAt.load23 C0.out
  have HT : Hid (Tab w) := ht
  clear hw0 ht
  go_enter Tryd.func6, Tryd.ntmps6
  go_wp2_with ((with_reducible refine at_ops ?_); (refine wpList_load_is (by rfl) 39 rfl rfl L1.out ?_); simp only [Act.put, List.setIfInBounds_toArray, List.set_cons_zero, List.set_cons_succ])
  clear ew
  refine (hnew_bad s hc w0).mono ?_
  rintro e w1 ⟨rfl, b1⟩
  have B1 : Hid (Below w.heap.size w w1) := below_then B0.out b1
  clear b1 B0 L1 C0 hc
  go_wp2_with fail
  refine (awake_any w1 (HT.out.later B1.out)).mono ?_
  rintro e w2 ⟨rfl, b2⟩
  have B2 : Hid (Below w.heap.size w w2) := below_then B1.out b2
  clear b2 B1
  go_wp2_with fail
  go_ret
  exact ⟨rfl, B2.out⟩

set_option maxHeartbeats 8000000 in
set_option maxRecDepth 100000 in
theorem homeKeeps_good (s : Sup) (hc : MayC s) (b : Int) (v : List Int) (hv : v.length = 32) (hvb : Bytes v) (M : Int) (w : World) (ht : Tab w) :
    Calls Tryd.prog 6 #[.agg (ccells s).toArray, .int .i64 b, .agg (U8 v).toArray, .int .i64 M] w fun e w' => e = .returned (.bool true) ∧ Below w.heap.size w w' := by
  obtain ⟨w0, hw0⟩ : ∃ x, x = (w.alloc (.cells (ccells s).toArray 39)).alloc (.cells (U8 v).toArray 23) := ⟨_, rfl⟩
  have ew := hw0.symm
  have sz0 : w0.heap.size = w.heap.size + 2 := by rw [hw0]; simp
  have B0 : Hid (Below w.heap.size w w0) := by rw [hw0]; exact below_then (below_alloc w _) (below_alloc _ _)
  have C0 : Hid (CAt w0 w.heap.size s) := by rw [hw0]; exact LAt.later (LAt.new 39 w (ccells s)) (below_alloc _ _)
  have V0 : Hid (VAt w0 (w.heap.size + 1) v) := by
    have := LAt.new 23 (w.alloc (.cells (ccells s).toArray 39)) (U8 v)
    rw [show (w.alloc (.cells (ccells s).toArray 39)).heap.size = w.heap.size + 1 by simp] at this
    rw [hw0]
    exact this
  have L1 : Hid (_) := CAt.load23 C0.out
  have HT : Hid (Tab w) := ht
  have HC : Hid (MayC s) := hc
  have HV : Hid (v.length = 32 ∧ Bytes v) := ⟨hv, hvb⟩
  have HZ0 : Hid (w0.heap.size = w.heap.size + 2) := sz0
  obtain ⟨m, hm⟩ : ∃ m, m = s.bl.toNat := ⟨_, rfl⟩
  have hb1 := hc.1
  have hmi : s.bl = (m : Int) := by omega
  have hm1 : 1 ≤ m := by omega
  have hm2 : m ≤ 64 := by omega
  have HM : Hid (m = s.bl.toNat ∧ s.bl = (m : Int)) := ⟨hm, hmi⟩
  obtain ⟨n, hn⟩ : ∃ n, n = cntS s := ⟨_, rfl⟩
  have HN : Hid (n = cntS s ∧ rfS s (n : Int) = 0) := by rw [hn]; exact ⟨rfl, rfS_ok hc (cntS_is hc)⟩
  have HCI : Hid (∀ w', CAt w' w.heap.size s → w'.cell? ⟨w.heap.size, 0, none⟩ = some (.int .i64 (m : Int))) := by
    rw [← hmi]; exact fun w' h => CAt.c0 h
  clear hw0 ht hc hv hvb sz0 hm hb1 hmi hn
  go_enter Tryd.func6, Tryd.ntmps6
  go_wp2_with ((with_reducible refine at_ops ?_); (refine wpList_load_is (by rfl) 39 rfl rfl L1.out ?_); simp only [Act.put, List.setIfInBounds_toArray, List.set_cons_zero, List.set_cons_succ])
  clear ew
  refine (hnew_good s HC.out w0 (HT.out.later B0.out)).mono ?_
  rintro e w1 ⟨p, rfl, d1, b1⟩
  rw [← HN.out.1] at d1
  have K1 : Hid (KS w w1 (fun k => w.heap.size + 2 ≤ k ∧ k < w1.heap.size) s v p n (newS s) []) := by
    refine ⟨d1.mono (fun k hk hs => ⟨by rw [← HZ0.out]; exact hs, hk⟩), LAt.later C0.out b1, LAt.later V0.out b1, fun k hk => hk.1, fun k hk => hk.2, below_then B0.out b1⟩
  clear d1 b1 B0 C0 V0 L1 HZ0
  go_wp2_with fail
  refine (awake_any w1 (HT.out.later K1.out.below)).mono ?_
  rintro e w2 ⟨rfl, b2⟩
  obtain ⟨S2, hS2⟩ : ∃ S2 : Nat → Prop, S2 = fun k => w.heap.size + 2 ≤ k ∧ k < w1.heap.size := ⟨_, rfl⟩
  rw [← hS2] at K1
  have K2 : Hid (KS w w2 S2 s v p n (newS s) []) := K1.out.later b2
  clear b2 K1 hS2
  obtain ⟨q, i, hi1, hi2, hi3, hi4, hi5, hi6⟩ := place M m (by omega)
  have w3a : IntKind.i64.wrap q = q := by rw [IntKind.wrap_i64]; omega
  have w3b : IntKind.i64.wrap (q + (m : Int)) = q + (m : Int) := by rw [IntKind.wrap_i64]; omega
  have w3c : IntKind.i64.wrap ((i : Nat) : Int) = (i : Int) := by rw [IntKind.wrap_i64]; omega
  have hm0 : ¬ (m = 0) := by omega
  clear hi2 hi3 hi5
  go_wp2_with fail
  refine wp_region_noPanic ?_
  refine wp_region_held_drew (S := fun w' => CAt w' w.heap.size s) (by kernel_rfl) K2.out.box.drew (fun hHeld => ?_)
  refine wpAnyH_take (i := 0) (v := ?va1) (by simp; rfl) (by kernel_rfl) (by kernel_rfl) (by kernel_rfl) (fun _ _ _ h => h) (Or.inl ⟨by rfl, ?ya1⟩) hHeld ?ra1
  case ya1 => intro w hSw; clear hSw; go_simp; with_reducible rfl
  simp only [Act.put, List.setIfInBounds_toArray, List.set_cons_zero, List.set_cons_succ]
  refine wpAnyH_take (i := 1) (v := ?va2) (by simp; rfl) (by kernel_rfl) (by kernel_rfl) (by kernel_rfl) (fun _ _ _ h => h) (Or.inl ⟨by rfl, ?ya2⟩) hHeld ?ra2
  case ya2 => intro w hSw; clear hSw; go_simp; with_reducible rfl
  simp only [Act.put, List.setIfInBounds_toArray, List.set_cons_zero, List.set_cons_succ]
  refine wpAnyH_take (i := 2) (v := ?va3) (by simp; rfl) (by kernel_rfl) (by kernel_rfl) (by kernel_rfl) (fun _ _ _ h => h) (Or.inl ⟨by rfl, ?ya3⟩) hHeld ?ra3
  case ya3 => intro w hSw; have z := HCI.out _ hSw; clear hSw; go_simp; with_reducible rfl
  simp only [Act.put, List.setIfInBounds_toArray, List.set_cons_zero, List.set_cons_succ]
  refine wpAnyH_take (i := 3) (v := ?va4) (by simp; rfl) (by kernel_rfl) (by kernel_rfl) (by kernel_rfl) (fun _ _ _ h => h) (Or.inl ⟨by rfl, ?ya4⟩) hHeld ?ra4
  case ya4 => intro w hSw; clear hSw; go_simp; with_reducible rfl
  simp only [Act.put, List.setIfInBounds_toArray, List.set_cons_zero, List.set_cons_succ]
  refine wpAnyH_take (i := 4) (v := ?va5) (by simp; rfl) (by kernel_rfl) (by kernel_rfl) (by kernel_rfl) (fun _ _ _ h => h) (Or.inl ⟨by rfl, ?ya5⟩) hHeld ?ra5
  case ya5 => intro w hSw; clear hSw; go_simp; with_reducible rfl
  simp only [Act.put, List.setIfInBounds_toArray, List.set_cons_zero, List.set_cons_succ]
  refine wpAnyH_take (i := 5) (v := ?va6) (by simp; rfl) (by kernel_rfl) (by kernel_rfl) (by kernel_rfl) (fun _ _ _ h => h) (Or.inl ⟨by rfl, ?ya6⟩) hHeld ?ra6
  case ya6 => intro w hSw; have z := HCI.out _ hSw; clear hSw; go_simp; with_reducible rfl
  simp only [Act.put, List.setIfInBounds_toArray, List.set_cons_zero, List.set_cons_succ]
  refine wpAnyH_take (i := 6) (v := ?va7) (by simp; rfl) (by kernel_rfl) (by kernel_rfl) (by kernel_rfl) (fun _ _ _ h => h) (Or.inl ⟨by rfl, ?ya7⟩) hHeld ?ra7
  case ya7 => intro w hSw; clear hSw; go_simp; with_reducible rfl
  simp only [Act.put, List.setIfInBounds_toArray, List.set_cons_zero, List.set_cons_succ]
  refine wpAnyH_take (i := 7) (v := ?va8) (by simp; rfl) (by kernel_rfl) (by kernel_rfl) (by kernel_rfl) (fun _ _ _ h => h) (Or.inl ⟨by rfl, ?ya8⟩) hHeld ?ra8
  case ya8 => intro w hSw; clear hSw; go_simp; with_reducible rfl
  simp only [Act.put, List.setIfInBounds_toArray, List.set_cons_zero, List.set_cons_succ]
  refine wpAnyH_take (i := 8) (v := ?va9) (by simp; rfl) (by kernel_rfl) (by kernel_rfl) (by kernel_rfl) (fun _ _ _ h => h) (Or.inl ⟨by rfl, ?ya9⟩) hHeld ?ra9
  case ya9 => intro w hSw; have z := HCI.out _ hSw; clear hSw; go_simp; with_reducible rfl
  simp only [Act.put, List.setIfInBounds_toArray, List.set_cons_zero, List.set_cons_succ]
  refine wpAnyH_take (i := 9) (v := ?va10) (by simp; rfl) (by kernel_rfl) (by kernel_rfl) (by kernel_rfl) (fun _ _ _ h => h) (Or.inl ⟨by rfl, ?ya10⟩) hHeld ?ra10
  case ya10 => intro w hSw; clear hSw; go_simp; with_reducible rfl
  simp only [Act.put, List.setIfInBounds_toArray, List.set_cons_zero, List.set_cons_succ]
  refine wpAnyH_take (i := 10) (v := ?va11) (by simp; rfl) (by kernel_rfl) (by kernel_rfl) (by kernel_rfl) (fun _ _ _ h => h) (Or.inl ⟨by rfl, ?ya11⟩) hHeld ?ra11
  case ya11 => intro w hSw; clear hSw; go_simp; with_reducible rfl
  simp only [Act.put, List.setIfInBounds_toArray, List.set_cons_zero, List.set_cons_succ]
  clear hHeld hi1 hi4 w3a w3b w3c hm0
  have K3 : Hid (KS w w2.drew S2 s v p n (newS s) []) := K2.out.later (below_drawn 1)
  clear K2
  generalize w2.drew = w3 at *
  refine wpAnyH_done (by kernel_rfl) (NoPanic.normal ?_) _
  have HI : Hid (rbS s (n : Int) (i : Int) = 0) := rbS_ok HN.out.2 ⟨by omega, by have := HM.out.2; omega⟩
  have L3 : Hid (_) := K3.out.load39
  have U3 : Hid (_) := build12 w3
  go_wp2_with ((with_reducible refine at_ops ?_); (first | (refine wpList_load_is (by rfl) 39 rfl rfl L3.out ?_) | (refine wpList_build_is (vs := [(0, .int .u8 1), (1, .int .u8 2)]) (by rfl) 23 rfl (by rfl) U3.out ?_)); simp only [Act.put, List.setIfInBounds_toArray, List.set_cons_zero, List.set_cons_succ])
  refine (hsave_any s (i : Int) one12 one12_len one12_bytes K3.out.dsk (by simp) (HT.out.later K3.out.below)).mono ?_
  rintro e w4 ⟨rfl, d4, k4⟩
  rw [HI.out]
  obtain ⟨ws1, hws1⟩ : ∃ x, x = svW s (n : Int) [] (i : Int) one12 := ⟨_, rfl⟩
  rw [← hws1] at d4
  obtain ⟨S4, hS4⟩ : ∃ S4 : Nat → Prop, S4 = fun k => S2 k ∨ (w3.heap.size ≤ k ∧ k < w4.heap.size) := ⟨_, rfl⟩
  have K4 : Hid (KS w w4 S4 s v p n (newS s) ws1) := by rw [hS4]; exact K3.out.turn d4 k4
  have HW1 : Hid (ws1.length = 1 ∧ allB s (n : Int) ws1 (newS s) m) := by
    rw [hws1]
    refine ⟨by rw [svW_yes _ _ HI.out]; rfl, all_sv _ one12_len (allB_iff.2 fun j hj => ?_)⟩
    rw [HN.out.1, new_ld HC.out j (by have := HM.out.1; omega)]
  clear d4 k4 K3 L3 U3 hS4 hws1
  go_wp2_with fail
  refine (image_any K4.out.dsk).mono ?_
  rintro e w5 ⟨vi, rfl, oi, b5⟩
  obtain ⟨pi, ci, rfl, hri, -⟩ := own_in oi (newS_bytes HC.out)
  have z5 := hri.str ci
  have K5 : Hid (KS w w5 S4 s v p n (newS s) ws1) := K4.out.later b5
  have H5 : Hid (∀ k, S4 k → k < w5.heap.size) := K5.out.hi
  have L5 : Hid (_) := K5.out.load39
  clear oi b5 hri K4
  go_wp2_with ((with_reducible refine at_ops ?_); (refine wpList_load_is (by rfl) 39 rfl rfl L5.out ?_); simp only [Act.put, List.setIfInBounds_toArray, List.set_cons_zero, List.set_cons_succ])
  clear z5 L5
  refine (hall_any s K5.out.dsk (HT.out.later K5.out.below)).mono ?_
  rintro e w6 ⟨qa, ca, rfl, oa, b6⟩
  rw [alS_ok HN.out.2 (by rw [← HM.out.1]; exact HW1.out.2), ← HM.out.1] at oa ⊢
  simp only [vals_length] at oa ⊢
  have VA6 : Hid (VIn w6 qa m (vals s (n : Int) ws1 (newS s) m)) := VIn.of_own oa (vals_each _ _ _ _ _) (vals_length _ _ _ _ _)
  have HQA : Hid (∀ a, qa = some a → w5.heap.size ≤ a.block) := own_base_le oa
  have K6 : Hid (KS w w6 S4 s v p n (newS s) ws1) := K5.out.later b6
  have L6 : Hid (_) := K6.out.load39
  have M6 : Hid (_) := VAt.load K6.out.val HV.out.1
  clear oa b6 K5
  go_wp2_with ((with_reducible refine at_ops ?_); (first | (refine wpList_load_is (by rfl) 39 rfl rfl L6.out ?_) | (refine wpList_load_is (by rfl) 23 rfl rfl M6.out ?_)); simp only [Act.put, List.setIfInBounds_toArray, List.set_cons_zero, List.set_cons_succ])
  clear L6 M6
  refine (hsave_any s b v HV.out.1 HV.out.2 K6.out.dsk (by rw [HW1.out.1]; omega) (HT.out.later K6.out.below)).mono ?_
  rintro e w7 ⟨rfl, d7, k7⟩
  obtain ⟨ws2, hws2⟩ : ∃ x, x = svW s (n : Int) ws1 b v := ⟨_, rfl⟩
  rw [← hws2] at d7
  obtain ⟨S7, hS7⟩ : ∃ S7 : Nat → Prop, S7 = fun k => S4 k ∨ (w6.heap.size ≤ k ∧ k < w7.heap.size) := ⟨_, rfl⟩
  have K7 : Hid (KS w w7 S7 s v p n (newS s) ws2) := by rw [hS7]; exact K6.out.turn d7 k7
  have VA7 : Hid (VIn w7 qa m (vals s (n : Int) ws1 (newS s) m)) := VA6.out.kept k7 (fun a ha hs => by have := HQA.out a ha; have := H5.out _ hs; omega)
  have HW2 : Hid (ws2.length ≤ 2 ∧ allB s (n : Int) ws2 (newS s) m ∧ (¬ rbS s (n : Int) b = 0 → ws2.length = 1)) := by
    rw [hws2]
    refine ⟨?_, all_sv _ HV.out.1 HW1.out.2, fun h => by rw [svW_no _ _ h]; exact HW1.out.1⟩
    have := svW_length s (n : Int) ws1 b v
    have := HW1.out.1
    omega
  have HVV : Hid (∀ j : Nat, (ldS s (n : Int) ws2 (newS s) (j : Int)).1 = if ((j : Nat) : Int) = b ∧ rbS s (n : Int) b = 0 then v else (ldS s (n : Int) ws1 (newS s) (j : Int)).1) := by
    intro j
    rw [hws2]
    by_cases c : ((j : Nat) : Int) = b
    · by_cases r : rbS s (n : Int) b = 0
      · rw [if_pos ⟨c, r⟩, c, ld_sv r HV.out.1]
      · rw [if_neg (fun h => r h.2), svW_no _ _ r]
    · rw [if_neg (fun h => c h.1), ld_sv_other c]
  clear d7 k7 K6 VA6 hS7 hws2
  obtain ⟨hq, hhq⟩ : ∃ x, x = rbS s (n : Int) b := ⟨_, rfl⟩
  have HHQ : Hid (hq = rbS s (n : Int) b) := hhq
  rw [← hhq]
  clear hhq
  have L7 : Hid (_) := K7.out.load39
  go_wp2_with ((with_reducible refine at_ops ?_); (refine wpList_load_is (by rfl) 39 rfl rfl L7.out ?_); simp only [Act.put, List.setIfInBounds_toArray, List.set_cons_zero, List.set_cons_succ])
  clear L7
  refine (hall_any s K7.out.dsk (HT.out.later K7.out.below)).mono ?_
  rintro e w8 ⟨qb, cb, rfl, ob, b8⟩
  rw [alS_ok HN.out.2 (by rw [← HM.out.1]; exact HW2.out.2.1), ← HM.out.1] at ob ⊢
  simp only [vals_length] at ob ⊢
  have VB8 : Hid (VIn w8 qb m (vals s (n : Int) ws2 (newS s) m)) := VIn.of_own ob (vals_each _ _ _ _ _) (vals_length _ _ _ _ _)
  have HQB : Hid (∀ a, qb = some a → w7.heap.size ≤ a.block) := own_base_le ob
  have H7 : Hid (∀ k, S7 k → k < w7.heap.size) := K7.out.hi
  have K8 : Hid (KS w w8 S7 s v p n (newS s) ws2) := K7.out.later b8
  have VA8 : Hid (VIn w8 qa m (vals s (n : Int) ws1 (newS s) m)) := VA7.out.later b8
  have c8 := HCI.out _ K8.out.box
  have e8 : (((m : Nat) : Int) != (m : Int)) = false := by simp
  clear ob b8 K7 VA7
  go_wp2_with fail
  clear c8 e8
  refine (image_any K8.out.dsk).mono ?_
  rintro e w9 ⟨vi, rfl, oi, b9⟩
  obtain ⟨pi, ci, rfl, hri, -⟩ := own_in oi (newS_bytes HC.out)
  have z9 := hri.str ci
  have K9 : Hid (KS w w9 S7 s v p n (newS s) ws2) := K8.out.later b9
  have VA9 : Hid (VIn w9 qa m (vals s (n : Int) ws1 (newS s) m)) := VA8.out.later b9
  have VB9 : Hid (VIn w9 qb m (vals s (n : Int) ws2 (newS s) m)) := VB8.out.later b9
  have c9 := HCI.out _ K9.out.box
  clear oi b9 hri K8 VA8 VB8
  by_cases hin : 0 ≤ b ∧ b < (m : Int)
  · have hz : hq = 0 := by rw [HHQ.out]; exact rbS_ok HN.out.2 ⟨hin.1, by have := HM.out.2; omega⟩
    subst hz
    have hin0 := hin.1
    have hin1 := hin.2
    have HVW : Hid (∀ j : Nat, (ldS s (n : Int) ws2 (newS s) (j : Int)).1 = if ((j : Nat) : Int) = b then v else (ldS s (n : Int) ws1 (newS s) (j : Int)).1) := fun j => by
      rw [HVV.out j]
      by_cases c : ((j : Nat) : Int) = b
      · rw [if_pos ⟨c, HHQ.out.symm⟩, if_pos c]
      · rw [if_neg (fun h => c h.1), if_neg c]
    clear hin HVV
    go_wp2_with fail
    clear z9 c9
    refine (waiting_any K9.out.dsk (by have := HW2.out.1; omega)).mono ?_
    rintro e w10 ⟨g10, vs10, rfl, -, b10⟩
    have hl2 : ¬ (2 : Int) < ((ws2.length : Nat) : Int) := by have := HW2.out.1; omega
    have K10 : Hid (KS w w10 S7 s v p n (newS s) ws2) := K9.out.later b10
    have VA10 : Hid (VIn w10 qa m (vals s (n : Int) ws1 (newS s) m)) := VA9.out.later b10
    have VB10 : Hid (VIn w10 qb m (vals s (n : Int) ws2 (newS s) m)) := VB9.out.later b10
    clear b10 K9 VA9 VB9
    go_wp2_with fail
    clear hl2
    have HVX : Hid (∀ j : Nat, j < m → (ldS s (n : Int) ws2 (newS s) (j : Int)).1 = if ((j : Nat) : Int) = b then v else (ldS s (n : Int) ws1 (newS s) (j : Int)).1) := fun j _ => HVW.out j
    clear HVW
    go_loopw [20] (fun u wr => ∃ j : Nat, j ≤ m ∧ u = .int .i64 j ∧ Hid (Below w10.heap.size w10 wr)) (fun u _ => m - (intOf u).toNat)
    case atStart => exact ⟨0, Nat.zero_le _, rfl, Below.refl _ _⟩
    case round =>
      obtain ⟨j, hj, rfl, BR⟩ := hrel
      have cr := HCI.out _ (LAt.later K10.out.box BR.out)
      by_cases hlt : j < m
      · have h0 : 0 < m := by omega
        have VAr := VA10.out.later BR.out
        have VBr := VB10.out.later BR.out
        obtain ⟨b1, o1, rfl, hb1, hc1⟩ := VAr.cells h0
        obtain ⟨b2, o2, rfl, hb2, hc2⟩ := VBr.cells h0
        have hjv : j < (vals s (n : Int) ws1 (newS s) m).length := by rw [vals_length]; exact hlt
        have hju : j < (vals s (n : Int) ws2 (newS s) m).length := by rw [vals_length]; exact hlt
        have R1 := hc1 j hjv
        have R2' := hc2 j hju
        rw [vals_get] at R1 R2'
        rw [HVX.out j hlt] at R2'
        have M2' := hb2
        have LX1 : Hid ((ldS s (n : Int) ws1 (newS s) (j : Int)).1.length = 32) := ldS_len _ _ _ _ _
        have Vr : Hid (VAt wr (w.heap.size + 1) v) := LAt.later K10.out.val BR.out
        generalize (ldS s (n : Int) ws1 (newS s) (j : Int)).1 = x at *
        have L1 : Hid (_) := run_loadAt_mid (P := Tryd.prog) wr b1 (o1 + j * 32) 23 (U8 x) _ R1 Tryd.underlying23 rfl (by rw [sizeV, U8_length, LX1.out])
        have A1 : Hid (_) := allocV wr
        have S1 : Hid (_) := store_newV wr x LX1.out
        obtain ⟨wa, hwa⟩ : ∃ y, y = wr.alloc (.cells (U8 x).toArray 23) := ⟨_, rfl⟩
        have Wa : Hid (VAt wa wr.heap.size x) := by rw [hwa]; exact LAt.new 23 wr _
        have Va : Hid (VAt wa (w.heap.size + 1) v) := by rw [hwa]; exact LAt.later Vr.out (below_alloc _ _)
        have ba : Below wr.heap.size wr wa := by rw [hwa]; exact below_alloc _ _
        have Ba : Hid (Below w10.heap.size w10 wa) := below_then BR.out ba
        have szr := BR.out.size
        rw [← hwa] at S1
        by_cases hjb : ((j : Nat) : Int) = b
        · rw [if_pos hjb] at R2'
          have LX : Hid (v.length = 32) := HV.out.1
          have hjq : (((j : Nat) : Int) == b) = true := by rw [hjb]; simp
          have L2 : Hid (_) := VAt.load Va.out HV.out.1
          have S2 : Hid (_) := VAt.store (v := v) Wa.out LX1.out HV.out.1
          obtain ⟨wb, hwb⟩ : ∃ y, y = wa.setRow wr.heap.size (U8 v).toArray := ⟨_, rfl⟩
          have WX : Hid (VAt wb wr.heap.size v) := by rw [hwb]; exact LAt.stored Wa.out _
          have bb : Below wr.heap.size wr wb := by rw [hwb]; exact below_setRow ba (Nat.le_refl _) _
          have R2 : Hid (wb.rangeAt b2 (o2 + j * 32) (U8 v)) := rangeAt_same R2' (bb.block b2 M2')
          have M2 : Hid (b2 < wb.heap.size) := Nat.lt_of_lt_of_le M2' bb.size
          have Bb : Hid (Below w10.heap.size w10 wb) := below_then BR.out bb
          have QE : Hid (∀ w, (binOp .neq 23 (.agg (U8 v).toArray) (.agg (U8 v).toArray)).run Tryd.prog w = .ok (.bool false) w) := fun w => by have := neqV w v v LX.out LX.out; rw [decide_eq_true (rfl : v = v)] at this; exact this
          rw [← hwb] at S2
          clear hwb hwa hb1 hc1 hb2 hc2 hjv hju R1 R2' M2' VAr VBr Vr Wa Va ba bb Ba BR hjb
          go_wp2_with ((with_reducible refine at_ops ?_); (first | (refine wpList_load_is (by rfl) 23 rfl rfl L1.out ?_) | (refine wpList_alloc_is (by rfl) 23 rfl A1.out ?_) | (refine wpList_store_is (by rfl) 23 rfl rfl rfl S1.out ?_) | (refine wpList_load_is (by rfl) 23 rfl rfl L2.out ?_) | (refine wpList_store_is (by rfl) 23 rfl rfl rfl S2.out ?_)); simp only [Act.put, List.setIfInBounds_toArray, List.set_cons_zero, List.set_cons_succ])
          clear cr L1 A1 S1 L2 S2 hjq
          refine wp_region_noPanic ?_
          refine wp_region_held_drew (S := fun w' => Below wb.heap.size wb w') (by kernel_rfl) (below_drawn 1) (fun hHeld => ?_)
          refine wpAnyH_take (i := 0) (v := ?va24) (by simp; rfl) (by kernel_rfl) (by kernel_rfl) (by kernel_rfl) (fun _ _ _ h => h) (Or.inl ⟨by rfl, ?ya24⟩) hHeld ?ra24
          case ya24 => intro w hSw; clear hSw; go_simp; with_reducible rfl
          simp only [Act.put, List.setIfInBounds_toArray, List.set_cons_zero, List.set_cons_succ]
          refine wpAnyH_take (i := 1) (v := ?va25) (by simp; rfl) (by kernel_rfl) (by kernel_rfl) (by kernel_rfl) (fun _ _ _ h => h) (Or.inl ⟨by rfl, ?ya25⟩) hHeld ?ra25
          case ya25 => intro w hSw; clear hSw; go_simp; with_reducible rfl
          simp only [Act.put, List.setIfInBounds_toArray, List.set_cons_zero, List.set_cons_succ]
          refine wpAnyH_take (i := 2) (v := ?va26) (by simp; rfl) (by kernel_rfl) (by kernel_rfl) (by kernel_rfl) (fun _ _ _ h => h) (Or.inl ⟨by rfl, ?ya26⟩) hHeld ?ra26
          case ya26 => intro w hSw; clear hSw; go_simp; with_reducible rfl
          simp only [Act.put, List.setIfInBounds_toArray, List.set_cons_zero, List.set_cons_succ]
          refine wpAnyH_take (i := 3) (v := _) (by simp; rfl) (by kernel_rfl) (by kernel_rfl) (by kernel_rfl) (fun _ _ _ h => h) (yieldsIf_load_mid (by rfl) 23 (.tmp 155) rfl b2 (o2 + j * 32) rfl (U8 v) _ (fun _ h => rangeAt_same R2.out (h.block b2 M2.out)) Tryd.underlying23 rfl (by rw [sizeV, U8_length, LX.out])) hHeld ?_
          simp only [Act.put, List.setIfInBounds_toArray, List.set_cons_zero, List.set_cons_succ]
          refine wpAnyH_take (i := 4) (v := _) (by simp; rfl) (by kernel_rfl) (by kernel_rfl) (by kernel_rfl) (fun _ _ _ h => h) (yieldsIf_load_mid (by rfl) 23 (.tmp 21) rfl wr.heap.size 0 rfl (U8 v) _ (fun _ h => LAt.range (LAt.later WX.out h)) Tryd.underlying23 rfl (by rw [sizeV, U8_length, LX.out])) hHeld ?_
          simp only [Act.put, List.setIfInBounds_toArray, List.set_cons_zero, List.set_cons_succ]
          refine wpAnyH_take (i := 5) (v := _) (by simp; rfl) (by kernel_rfl) (by kernel_rfl) (by kernel_rfl) (fun _ _ _ h => h) (yields_neq_is (by rfl) 23 rfl rfl rfl eqgV QE.out) hHeld ?_
          simp only [Act.put, List.setIfInBounds_toArray, List.set_cons_zero, List.set_cons_succ]
          have Bc : Hid (Below w10.heap.size w10 wb.drew) := below_then Bb.out hHeld
          clear hHeld Bb QE R2 M2 WX
          refine wpAnyH_done (by kernel_rfl) (NoPanic.normal ?_) _
          go_wp2_with fail
          go_roundw
          case rel => exact ⟨j + 1, by omega, by go_num, Bc.out⟩
          case measure => simp [intOf]; omega
        · rw [if_neg hjb] at R2'
          have LX := LX1
          have hjq : (((j : Nat) : Int) == b) = false := by simp [hjb]
          have WX := Wa
          have R2 : Hid (wa.rangeAt b2 (o2 + j * 32) (U8 x)) := rangeAt_same R2' (ba.block b2 M2')
          have M2 : Hid (b2 < wa.heap.size) := Nat.lt_of_lt_of_le M2' ba.size
          have QE : Hid (∀ w, (binOp .neq 23 (.agg (U8 x).toArray) (.agg (U8 x).toArray)).run Tryd.prog w = .ok (.bool false) w) := fun w => by have := neqV w x x LX.out LX.out; rw [decide_eq_true (rfl : x = x)] at this; exact this
          clear hwa hb1 hc1 hb2 hc2 hjv hju R1 R2' M2' VAr VBr Vr Wa Va ba BR hjb
          go_wp2_with ((with_reducible refine at_ops ?_); (first | (refine wpList_load_is (by rfl) 23 rfl rfl L1.out ?_) | (refine wpList_alloc_is (by rfl) 23 rfl A1.out ?_) | (refine wpList_store_is (by rfl) 23 rfl rfl rfl S1.out ?_)); simp only [Act.put, List.setIfInBounds_toArray, List.set_cons_zero, List.set_cons_succ])
          clear cr L1 A1 S1 hjq
          refine wp_region_noPanic ?_
          refine wp_region_held_drew (S := fun w' => Below wa.heap.size wa w') (by kernel_rfl) (below_drawn 1) (fun hHeld => ?_)
          refine wpAnyH_take (i := 0) (v := ?va27) (by simp; rfl) (by kernel_rfl) (by kernel_rfl) (by kernel_rfl) (fun _ _ _ h => h) (Or.inl ⟨by rfl, ?ya27⟩) hHeld ?ra27
          case ya27 => intro w hSw; clear hSw; go_simp; with_reducible rfl
          simp only [Act.put, List.setIfInBounds_toArray, List.set_cons_zero, List.set_cons_succ]
          refine wpAnyH_take (i := 1) (v := ?va28) (by simp; rfl) (by kernel_rfl) (by kernel_rfl) (by kernel_rfl) (fun _ _ _ h => h) (Or.inl ⟨by rfl, ?ya28⟩) hHeld ?ra28
          case ya28 => intro w hSw; clear hSw; go_simp; with_reducible rfl
          simp only [Act.put, List.setIfInBounds_toArray, List.set_cons_zero, List.set_cons_succ]
          refine wpAnyH_take (i := 2) (v := ?va29) (by simp; rfl) (by kernel_rfl) (by kernel_rfl) (by kernel_rfl) (fun _ _ _ h => h) (Or.inl ⟨by rfl, ?ya29⟩) hHeld ?ra29
          case ya29 => intro w hSw; clear hSw; go_simp; with_reducible rfl
          simp only [Act.put, List.setIfInBounds_toArray, List.set_cons_zero, List.set_cons_succ]
          refine wpAnyH_take (i := 3) (v := _) (by simp; rfl) (by kernel_rfl) (by kernel_rfl) (by kernel_rfl) (fun _ _ _ h => h) (yieldsIf_load_mid (by rfl) 23 (.tmp 155) rfl b2 (o2 + j * 32) rfl (U8 x) _ (fun _ h => rangeAt_same R2.out (h.block b2 M2.out)) Tryd.underlying23 rfl (by rw [sizeV, U8_length, LX.out])) hHeld ?_
          simp only [Act.put, List.setIfInBounds_toArray, List.set_cons_zero, List.set_cons_succ]
          refine wpAnyH_take (i := 4) (v := _) (by simp; rfl) (by kernel_rfl) (by kernel_rfl) (by kernel_rfl) (fun _ _ _ h => h) (yieldsIf_load_mid (by rfl) 23 (.tmp 21) rfl wr.heap.size 0 rfl (U8 x) _ (fun _ h => LAt.range (LAt.later WX.out h)) Tryd.underlying23 rfl (by rw [sizeV, U8_length, LX.out])) hHeld ?_
          simp only [Act.put, List.setIfInBounds_toArray, List.set_cons_zero, List.set_cons_succ]
          refine wpAnyH_take (i := 5) (v := _) (by simp; rfl) (by kernel_rfl) (by kernel_rfl) (by kernel_rfl) (fun _ _ _ h => h) (yields_neq_is (by rfl) 23 rfl rfl rfl eqgV QE.out) hHeld ?_
          simp only [Act.put, List.setIfInBounds_toArray, List.set_cons_zero, List.set_cons_succ]
          have Bc : Hid (Below w10.heap.size w10 wa.drew) := below_then Ba.out hHeld
          clear hHeld Ba QE R2 M2 WX
          refine wpAnyH_done (by kernel_rfl) (NoPanic.normal ?_) _
          go_wp2_with fail
          go_roundw
          case rel => exact ⟨j + 1, by omega, by go_num, Bc.out⟩
          case measure => simp [intOf]; omega
      · have KR : Hid (KS w wr S7 s v p n (newS s) ws2) := K10.out.later BR.out
        have VBR : Hid (VIn wr qb m (vals s (n : Int) ws2 (newS s) m)) := VB10.out.later BR.out
        clear BR
        go_wp2_with fail
        clear cr
        refine (flush_any KR.out.dsk (by have := HW2.out.1; omega)).mono ?_
        rintro e wf ⟨rfl, df, kf⟩
        have VBF : Hid (VIn wf qb m (vals s (n : Int) ws2 (newS s) m)) := VBR.out.kept kf (fun a ha hs => by have := HQB.out a ha; have := H7.out _ hs; omega)
        have BF : Hid (Below w.heap.size w wf) := KR.out.below.trans (kf.below KR.out.below.size (fun k hs => by have := KR.out.lo k hs; omega))
        have CF : Hid (CAt wf w.heap.size s) := (kf.block _ (LAt.lt KR.out.box) (fun c => by have := KR.out.lo _ c; omega)).trans KR.out.box
        have DF : Hid (Dsk wf S7 p n (settle (fun _ => true) ws2 (newS s)) []) := df
        have AF : Hid (alS s (n : Int) [] (settle (fun _ => true) ws2 (newS s)) = (vals s (n : Int) ws2 (newS s) m, 0)) := by
          obtain ⟨q', cap', v', hp⟩ := KR.out.dsk
          show _ = _
          rw [al_flush hp.dl hp.fit, alS_ok HN.out.2 (by rw [← HM.out.1]; exact HW2.out.2.1), ← HM.out.1]
        have LF : Hid (_) := CAt.load23 CF.out
        clear df kf KR VBR
        generalize ws2.length = l3 at *
        go_wp2_with ((with_reducible refine at_ops ?_); (refine wpList_load_is (by rfl) 39 rfl rfl LF.out ?_); simp only [Act.put, List.setIfInBounds_toArray, List.set_cons_zero, List.set_cons_succ])
        clear LF
        refine (hall_any s DF.out (HT.out.later BF.out)).mono ?_
        rintro e wg ⟨qg, cg, rfl, og, bg⟩
        rw [AF.out] at og ⊢
        simp only [vals_length] at og ⊢
        have VG : Hid (VIn wg qg m (vals s (n : Int) ws2 (newS s) m)) := VIn.of_own og (vals_each _ _ _ _ _) (vals_length _ _ _ _ _)
        have VBG : Hid (VIn wg qb m (vals s (n : Int) ws2 (newS s) m)) := VBF.out.later bg
        have BG : Hid (Below w.heap.size w wg) := below_then BF.out bg
        clear og bg VBF BF CF DF AF
        go_wp2_with fail
        refine (same_vals qg qb m m cg cb _ _ wg VG.out VBG.out (by omega)).mono ?_
        rintro e wh ⟨rfl, bh⟩
        rw [decide_eq_true rfl]
        have BH : Hid (Below w.heap.size w wh) := below_then BG.out bh
        clear bh VG VBG BG
        go_wp2_with fail
        go_ret
        exact ⟨rfl, BH.out⟩
  · have hz : ¬ hq = 0 := by rw [HHQ.out, rbS_out HN.out.2 (by have := HM.out.2; omega)]; decide
    have HZ : Hid (¬ rbS s (n : Int) b = 0) := by have := hz; rw [HHQ.out] at this; exact this
    have hz1 : (hq == 0) = false := by simp [hz]
    have HL1 : Hid (ws2.length = 1) := HW2.out.2.2 HZ.out
    have HVW : Hid (∀ j : Nat, (ldS s (n : Int) ws2 (newS s) (j : Int)).1 = (ldS s (n : Int) ws1 (newS s) (j : Int)).1) := fun j => by
      rw [HVV.out j, if_neg (fun h => HZ.out h.2)]
    clear hz HVV
    have hinD : b < 0 ∨ (0 ≤ b ∧ (m : Int) ≤ b) := by omega
    clear hin
    rcases hinD with hlo | ⟨hlo, hhi⟩
    · go_wp2_with fail
      clear z9 c9 hz1
      refine (waiting_any K9.out.dsk (by have := HW2.out.1; omega)).mono ?_
      rintro e w10 ⟨g10, vs10, rfl, -, b10⟩
      rw [HL1.out]
      have K10 : Hid (KS w w10 S7 s v p n (newS s) ws2) := K9.out.later b10
      have VA10 : Hid (VIn w10 qa m (vals s (n : Int) ws1 (newS s) m)) := VA9.out.later b10
      have VB10 : Hid (VIn w10 qb m (vals s (n : Int) ws2 (newS s) m)) := VB9.out.later b10
      clear b10 K9 VA9 VB9
      go_wp2_with fail
      refine (waiting_any K10.out.dsk (by have := HW2.out.1; omega)).mono ?_
      rintro e w11 ⟨g11, vs11, rfl, -, b11⟩
      rw [HL1.out]
      have K11 : Hid (KS w w11 S7 s v p n (newS s) ws2) := K10.out.later b11
      have VA11 : Hid (VIn w11 qa m (vals s (n : Int) ws1 (newS s) m)) := VA10.out.later b11
      have VB11 : Hid (VIn w11 qb m (vals s (n : Int) ws2 (newS s) m)) := VB10.out.later b11
      clear b11 K10 VA10 VB10
      go_wp2_with fail
      have HVX : Hid (∀ j : Nat, j < m → (ldS s (n : Int) ws2 (newS s) (j : Int)).1 = if ((j : Nat) : Int) = b then v else (ldS s (n : Int) ws1 (newS s) (j : Int)).1) := fun j hj => by
        rw [HVW.out j, if_neg (by omega)]
      clear HVW
      go_loopw [20] (fun u wr => ∃ j : Nat, j ≤ m ∧ u = .int .i64 j ∧ Hid (Below w11.heap.size w11 wr)) (fun u _ => m - (intOf u).toNat)
      case atStart => exact ⟨0, Nat.zero_le _, rfl, Below.refl _ _⟩
      case round =>
        obtain ⟨j, hj, rfl, BR⟩ := hrel
        have cr := HCI.out _ (LAt.later K11.out.box BR.out)
        by_cases hlt : j < m
        · have h0 : 0 < m := by omega
          have VAr := VA11.out.later BR.out
          have VBr := VB11.out.later BR.out
          obtain ⟨b1, o1, rfl, hb1, hc1⟩ := VAr.cells h0
          obtain ⟨b2, o2, rfl, hb2, hc2⟩ := VBr.cells h0
          have hjv : j < (vals s (n : Int) ws1 (newS s) m).length := by rw [vals_length]; exact hlt
          have hju : j < (vals s (n : Int) ws2 (newS s) m).length := by rw [vals_length]; exact hlt
          have R1 := hc1 j hjv
          have R2' := hc2 j hju
          rw [vals_get] at R1 R2'
          rw [HVX.out j hlt] at R2'
          have M2' := hb2
          have LX1 : Hid ((ldS s (n : Int) ws1 (newS s) (j : Int)).1.length = 32) := ldS_len _ _ _ _ _
          have Vr : Hid (VAt wr (w.heap.size + 1) v) := LAt.later K11.out.val BR.out
          generalize (ldS s (n : Int) ws1 (newS s) (j : Int)).1 = x at *
          have L1 : Hid (_) := run_loadAt_mid (P := Tryd.prog) wr b1 (o1 + j * 32) 23 (U8 x) _ R1 Tryd.underlying23 rfl (by rw [sizeV, U8_length, LX1.out])
          have A1 : Hid (_) := allocV wr
          have S1 : Hid (_) := store_newV wr x LX1.out
          obtain ⟨wa, hwa⟩ : ∃ y, y = wr.alloc (.cells (U8 x).toArray 23) := ⟨_, rfl⟩
          have Wa : Hid (VAt wa wr.heap.size x) := by rw [hwa]; exact LAt.new 23 wr _
          have Va : Hid (VAt wa (w.heap.size + 1) v) := by rw [hwa]; exact LAt.later Vr.out (below_alloc _ _)
          have ba : Below wr.heap.size wr wa := by rw [hwa]; exact below_alloc _ _
          have Ba : Hid (Below w11.heap.size w11 wa) := below_then BR.out ba
          have szr := BR.out.size
          rw [← hwa] at S1
          by_cases hjb : ((j : Nat) : Int) = b
          · rw [if_pos hjb] at R2'
            have LX : Hid (v.length = 32) := HV.out.1
            have hjq : (((j : Nat) : Int) == b) = true := by rw [hjb]; simp
            have L2 : Hid (_) := VAt.load Va.out HV.out.1
            have S2 : Hid (_) := VAt.store (v := v) Wa.out LX1.out HV.out.1
            obtain ⟨wb, hwb⟩ : ∃ y, y = wa.setRow wr.heap.size (U8 v).toArray := ⟨_, rfl⟩
            have WX : Hid (VAt wb wr.heap.size v) := by rw [hwb]; exact LAt.stored Wa.out _
            have bb : Below wr.heap.size wr wb := by rw [hwb]; exact below_setRow ba (Nat.le_refl _) _
            have R2 : Hid (wb.rangeAt b2 (o2 + j * 32) (U8 v)) := rangeAt_same R2' (bb.block b2 M2')
            have M2 : Hid (b2 < wb.heap.size) := Nat.lt_of_lt_of_le M2' bb.size
            have Bb : Hid (Below w11.heap.size w11 wb) := below_then BR.out bb
            have QE : Hid (∀ w, (binOp .neq 23 (.agg (U8 v).toArray) (.agg (U8 v).toArray)).run Tryd.prog w = .ok (.bool false) w) := fun w => by have := neqV w v v LX.out LX.out; rw [decide_eq_true (rfl : v = v)] at this; exact this
            rw [← hwb] at S2
            clear hwb hwa hb1 hc1 hb2 hc2 hjv hju R1 R2' M2' VAr VBr Vr Wa Va ba bb Ba BR hjb
            go_wp2_with ((with_reducible refine at_ops ?_); (first | (refine wpList_load_is (by rfl) 23 rfl rfl L1.out ?_) | (refine wpList_alloc_is (by rfl) 23 rfl A1.out ?_) | (refine wpList_store_is (by rfl) 23 rfl rfl rfl S1.out ?_) | (refine wpList_load_is (by rfl) 23 rfl rfl L2.out ?_) | (refine wpList_store_is (by rfl) 23 rfl rfl rfl S2.out ?_)); simp only [Act.put, List.setIfInBounds_toArray, List.set_cons_zero, List.set_cons_succ])
            clear cr L1 A1 S1 L2 S2 hjq
            refine wp_region_noPanic ?_
            refine wp_region_held_drew (S := fun w' => Below wb.heap.size wb w') (by kernel_rfl) (below_drawn 1) (fun hHeld => ?_)
            refine wpAnyH_take (i := 0) (v := ?va12) (by simp; rfl) (by kernel_rfl) (by kernel_rfl) (by kernel_rfl) (fun _ _ _ h => h) (Or.inl ⟨by rfl, ?ya12⟩) hHeld ?ra12
            case ya12 => intro w hSw; clear hSw; go_simp; with_reducible rfl
            simp only [Act.put, List.setIfInBounds_toArray, List.set_cons_zero, List.set_cons_succ]
            refine wpAnyH_take (i := 1) (v := ?va13) (by simp; rfl) (by kernel_rfl) (by kernel_rfl) (by kernel_rfl) (fun _ _ _ h => h) (Or.inl ⟨by rfl, ?ya13⟩) hHeld ?ra13
            case ya13 => intro w hSw; clear hSw; go_simp; with_reducible rfl
            simp only [Act.put, List.setIfInBounds_toArray, List.set_cons_zero, List.set_cons_succ]
            refine wpAnyH_take (i := 2) (v := ?va14) (by simp; rfl) (by kernel_rfl) (by kernel_rfl) (by kernel_rfl) (fun _ _ _ h => h) (Or.inl ⟨by rfl, ?ya14⟩) hHeld ?ra14
            case ya14 => intro w hSw; clear hSw; go_simp; with_reducible rfl
            simp only [Act.put, List.setIfInBounds_toArray, List.set_cons_zero, List.set_cons_succ]
            refine wpAnyH_take (i := 3) (v := _) (by simp; rfl) (by kernel_rfl) (by kernel_rfl) (by kernel_rfl) (fun _ _ _ h => h) (yieldsIf_load_mid (by rfl) 23 (.tmp 155) rfl b2 (o2 + j * 32) rfl (U8 v) _ (fun _ h => rangeAt_same R2.out (h.block b2 M2.out)) Tryd.underlying23 rfl (by rw [sizeV, U8_length, LX.out])) hHeld ?_
            simp only [Act.put, List.setIfInBounds_toArray, List.set_cons_zero, List.set_cons_succ]
            refine wpAnyH_take (i := 4) (v := _) (by simp; rfl) (by kernel_rfl) (by kernel_rfl) (by kernel_rfl) (fun _ _ _ h => h) (yieldsIf_load_mid (by rfl) 23 (.tmp 21) rfl wr.heap.size 0 rfl (U8 v) _ (fun _ h => LAt.range (LAt.later WX.out h)) Tryd.underlying23 rfl (by rw [sizeV, U8_length, LX.out])) hHeld ?_
            simp only [Act.put, List.setIfInBounds_toArray, List.set_cons_zero, List.set_cons_succ]
            refine wpAnyH_take (i := 5) (v := _) (by simp; rfl) (by kernel_rfl) (by kernel_rfl) (by kernel_rfl) (fun _ _ _ h => h) (yields_neq_is (by rfl) 23 rfl rfl rfl eqgV QE.out) hHeld ?_
            simp only [Act.put, List.setIfInBounds_toArray, List.set_cons_zero, List.set_cons_succ]
            have Bc : Hid (Below w11.heap.size w11 wb.drew) := below_then Bb.out hHeld
            clear hHeld Bb QE R2 M2 WX
            refine wpAnyH_done (by kernel_rfl) (NoPanic.normal ?_) _
            go_wp2_with fail
            go_roundw
            case rel => exact ⟨j + 1, by omega, by go_num, Bc.out⟩
            case measure => simp [intOf]; omega
          · rw [if_neg hjb] at R2'
            have LX := LX1
            have hjq : (((j : Nat) : Int) == b) = false := by simp [hjb]
            have WX := Wa
            have R2 : Hid (wa.rangeAt b2 (o2 + j * 32) (U8 x)) := rangeAt_same R2' (ba.block b2 M2')
            have M2 : Hid (b2 < wa.heap.size) := Nat.lt_of_lt_of_le M2' ba.size
            have QE : Hid (∀ w, (binOp .neq 23 (.agg (U8 x).toArray) (.agg (U8 x).toArray)).run Tryd.prog w = .ok (.bool false) w) := fun w => by have := neqV w x x LX.out LX.out; rw [decide_eq_true (rfl : x = x)] at this; exact this
            clear hwa hb1 hc1 hb2 hc2 hjv hju R1 R2' M2' VAr VBr Vr Wa Va ba BR hjb
            go_wp2_with ((with_reducible refine at_ops ?_); (first | (refine wpList_load_is (by rfl) 23 rfl rfl L1.out ?_) | (refine wpList_alloc_is (by rfl) 23 rfl A1.out ?_) | (refine wpList_store_is (by rfl) 23 rfl rfl rfl S1.out ?_)); simp only [Act.put, List.setIfInBounds_toArray, List.set_cons_zero, List.set_cons_succ])
            clear cr L1 A1 S1 hjq
            refine wp_region_noPanic ?_
            refine wp_region_held_drew (S := fun w' => Below wa.heap.size wa w') (by kernel_rfl) (below_drawn 1) (fun hHeld => ?_)
            refine wpAnyH_take (i := 0) (v := ?va15) (by simp; rfl) (by kernel_rfl) (by kernel_rfl) (by kernel_rfl) (fun _ _ _ h => h) (Or.inl ⟨by rfl, ?ya15⟩) hHeld ?ra15
            case ya15 => intro w hSw; clear hSw; go_simp; with_reducible rfl
            simp only [Act.put, List.setIfInBounds_toArray, List.set_cons_zero, List.set_cons_succ]
            refine wpAnyH_take (i := 1) (v := ?va16) (by simp; rfl) (by kernel_rfl) (by kernel_rfl) (by kernel_rfl) (fun _ _ _ h => h) (Or.inl ⟨by rfl, ?ya16⟩) hHeld ?ra16
            case ya16 => intro w hSw; clear hSw; go_simp; with_reducible rfl
            simp only [Act.put, List.setIfInBounds_toArray, List.set_cons_zero, List.set_cons_succ]
            refine wpAnyH_take (i := 2) (v := ?va17) (by simp; rfl) (by kernel_rfl) (by kernel_rfl) (by kernel_rfl) (fun _ _ _ h => h) (Or.inl ⟨by rfl, ?ya17⟩) hHeld ?ra17
            case ya17 => intro w hSw; clear hSw; go_simp; with_reducible rfl
            simp only [Act.put, List.setIfInBounds_toArray, List.set_cons_zero, List.set_cons_succ]
            refine wpAnyH_take (i := 3) (v := _) (by simp; rfl) (by kernel_rfl) (by kernel_rfl) (by kernel_rfl) (fun _ _ _ h => h) (yieldsIf_load_mid (by rfl) 23 (.tmp 155) rfl b2 (o2 + j * 32) rfl (U8 x) _ (fun _ h => rangeAt_same R2.out (h.block b2 M2.out)) Tryd.underlying23 rfl (by rw [sizeV, U8_length, LX.out])) hHeld ?_
            simp only [Act.put, List.setIfInBounds_toArray, List.set_cons_zero, List.set_cons_succ]
            refine wpAnyH_take (i := 4) (v := _) (by simp; rfl) (by kernel_rfl) (by kernel_rfl) (by kernel_rfl) (fun _ _ _ h => h) (yieldsIf_load_mid (by rfl) 23 (.tmp 21) rfl wr.heap.size 0 rfl (U8 x) _ (fun _ h => LAt.range (LAt.later WX.out h)) Tryd.underlying23 rfl (by rw [sizeV, U8_length, LX.out])) hHeld ?_
            simp only [Act.put, List.setIfInBounds_toArray, List.set_cons_zero, List.set_cons_succ]
            refine wpAnyH_take (i := 5) (v := _) (by simp; rfl) (by kernel_rfl) (by kernel_rfl) (by kernel_rfl) (fun _ _ _ h => h) (yields_neq_is (by rfl) 23 rfl rfl rfl eqgV QE.out) hHeld ?_
            simp only [Act.put, List.setIfInBounds_toArray, List.set_cons_zero, List.set_cons_succ]
            have Bc : Hid (Below w11.heap.size w11 wa.drew) := below_then Ba.out hHeld
            clear hHeld Ba QE R2 M2 WX
            refine wpAnyH_done (by kernel_rfl) (NoPanic.normal ?_) _
            go_wp2_with fail
            go_roundw
            case rel => exact ⟨j + 1, by omega, by go_num, Bc.out⟩
            case measure => simp [intOf]; omega
        · have KR : Hid (KS w wr S7 s v p n (newS s) ws2) := K11.out.later BR.out
          have VBR : Hid (VIn wr qb m (vals s (n : Int) ws2 (newS s) m)) := VB11.out.later BR.out
          clear BR
          go_wp2_with fail
          clear cr
          refine (flush_any KR.out.dsk (by have := HW2.out.1; omega)).mono ?_
          rintro e wf ⟨rfl, df, kf⟩
          have VBF : Hid (VIn wf qb m (vals s (n : Int) ws2 (newS s) m)) := VBR.out.kept kf (fun a ha hs => by have := HQB.out a ha; have := H7.out _ hs; omega)
          have BF : Hid (Below w.heap.size w wf) := KR.out.below.trans (kf.below KR.out.below.size (fun k hs => by have := KR.out.lo k hs; omega))
          have CF : Hid (CAt wf w.heap.size s) := (kf.block _ (LAt.lt KR.out.box) (fun c => by have := KR.out.lo _ c; omega)).trans KR.out.box
          have DF : Hid (Dsk wf S7 p n (settle (fun _ => true) ws2 (newS s)) []) := df
          have AF : Hid (alS s (n : Int) [] (settle (fun _ => true) ws2 (newS s)) = (vals s (n : Int) ws2 (newS s) m, 0)) := by
            obtain ⟨q', cap', v', hp⟩ := KR.out.dsk
            show _ = _
            rw [al_flush hp.dl hp.fit, alS_ok HN.out.2 (by rw [← HM.out.1]; exact HW2.out.2.1), ← HM.out.1]
          have LF : Hid (_) := CAt.load23 CF.out
          clear df kf KR VBR
          generalize ws2.length = l3 at *
          go_wp2_with ((with_reducible refine at_ops ?_); (refine wpList_load_is (by rfl) 39 rfl rfl LF.out ?_); simp only [Act.put, List.setIfInBounds_toArray, List.set_cons_zero, List.set_cons_succ])
          clear LF
          refine (hall_any s DF.out (HT.out.later BF.out)).mono ?_
          rintro e wg ⟨qg, cg, rfl, og, bg⟩
          rw [AF.out] at og ⊢
          simp only [vals_length] at og ⊢
          have VG : Hid (VIn wg qg m (vals s (n : Int) ws2 (newS s) m)) := VIn.of_own og (vals_each _ _ _ _ _) (vals_length _ _ _ _ _)
          have VBG : Hid (VIn wg qb m (vals s (n : Int) ws2 (newS s) m)) := VBF.out.later bg
          have BG : Hid (Below w.heap.size w wg) := below_then BF.out bg
          clear og bg VBF BF CF DF AF
          go_wp2_with fail
          refine (same_vals qg qb m m cg cb _ _ wg VG.out VBG.out (by omega)).mono ?_
          rintro e wh ⟨rfl, bh⟩
          rw [decide_eq_true rfl]
          have BH : Hid (Below w.heap.size w wh) := below_then BG.out bh
          clear bh VG VBG BG
          go_wp2_with fail
          go_ret
          exact ⟨rfl, BH.out⟩
    · go_wp2_with fail
      clear z9 c9 hz1
      refine (waiting_any K9.out.dsk (by have := HW2.out.1; omega)).mono ?_
      rintro e w10 ⟨g10, vs10, rfl, -, b10⟩
      rw [HL1.out]
      have K10 : Hid (KS w w10 S7 s v p n (newS s) ws2) := K9.out.later b10
      have VA10 : Hid (VIn w10 qa m (vals s (n : Int) ws1 (newS s) m)) := VA9.out.later b10
      have VB10 : Hid (VIn w10 qb m (vals s (n : Int) ws2 (newS s) m)) := VB9.out.later b10
      clear b10 K9 VA9 VB9
      go_wp2_with fail
      refine (waiting_any K10.out.dsk (by have := HW2.out.1; omega)).mono ?_
      rintro e w11 ⟨g11, vs11, rfl, -, b11⟩
      rw [HL1.out]
      have K11 : Hid (KS w w11 S7 s v p n (newS s) ws2) := K10.out.later b11
      have VA11 : Hid (VIn w11 qa m (vals s (n : Int) ws1 (newS s) m)) := VA10.out.later b11
      have VB11 : Hid (VIn w11 qb m (vals s (n : Int) ws2 (newS s) m)) := VB10.out.later b11
      clear b11 K10 VA10 VB10
      go_wp2_with fail
      have HVX : Hid (∀ j : Nat, j < m → (ldS s (n : Int) ws2 (newS s) (j : Int)).1 = if ((j : Nat) : Int) = b then v else (ldS s (n : Int) ws1 (newS s) (j : Int)).1) := fun j hj => by
        rw [HVW.out j, if_neg (by omega)]
      clear HVW
      go_loopw [20] (fun u wr => ∃ j : Nat, j ≤ m ∧ u = .int .i64 j ∧ Hid (Below w11.heap.size w11 wr)) (fun u _ => m - (intOf u).toNat)
      case atStart => exact ⟨0, Nat.zero_le _, rfl, Below.refl _ _⟩
      case round =>
        obtain ⟨j, hj, rfl, BR⟩ := hrel
        have cr := HCI.out _ (LAt.later K11.out.box BR.out)
        by_cases hlt : j < m
        · have h0 : 0 < m := by omega
          have VAr := VA11.out.later BR.out
          have VBr := VB11.out.later BR.out
          obtain ⟨b1, o1, rfl, hb1, hc1⟩ := VAr.cells h0
          obtain ⟨b2, o2, rfl, hb2, hc2⟩ := VBr.cells h0
          have hjv : j < (vals s (n : Int) ws1 (newS s) m).length := by rw [vals_length]; exact hlt
          have hju : j < (vals s (n : Int) ws2 (newS s) m).length := by rw [vals_length]; exact hlt
          have R1 := hc1 j hjv
          have R2' := hc2 j hju
          rw [vals_get] at R1 R2'
          rw [HVX.out j hlt] at R2'
          have M2' := hb2
          have LX1 : Hid ((ldS s (n : Int) ws1 (newS s) (j : Int)).1.length = 32) := ldS_len _ _ _ _ _
          have Vr : Hid (VAt wr (w.heap.size + 1) v) := LAt.later K11.out.val BR.out
          generalize (ldS s (n : Int) ws1 (newS s) (j : Int)).1 = x at *
          have L1 : Hid (_) := run_loadAt_mid (P := Tryd.prog) wr b1 (o1 + j * 32) 23 (U8 x) _ R1 Tryd.underlying23 rfl (by rw [sizeV, U8_length, LX1.out])
          have A1 : Hid (_) := allocV wr
          have S1 : Hid (_) := store_newV wr x LX1.out
          obtain ⟨wa, hwa⟩ : ∃ y, y = wr.alloc (.cells (U8 x).toArray 23) := ⟨_, rfl⟩
          have Wa : Hid (VAt wa wr.heap.size x) := by rw [hwa]; exact LAt.new 23 wr _
          have Va : Hid (VAt wa (w.heap.size + 1) v) := by rw [hwa]; exact LAt.later Vr.out (below_alloc _ _)
          have ba : Below wr.heap.size wr wa := by rw [hwa]; exact below_alloc _ _
          have Ba : Hid (Below w11.heap.size w11 wa) := below_then BR.out ba
          have szr := BR.out.size
          rw [← hwa] at S1
          by_cases hjb : ((j : Nat) : Int) = b
          · rw [if_pos hjb] at R2'
            have LX : Hid (v.length = 32) := HV.out.1
            have hjq : (((j : Nat) : Int) == b) = true := by rw [hjb]; simp
            have L2 : Hid (_) := VAt.load Va.out HV.out.1
            have S2 : Hid (_) := VAt.store (v := v) Wa.out LX1.out HV.out.1
            obtain ⟨wb, hwb⟩ : ∃ y, y = wa.setRow wr.heap.size (U8 v).toArray := ⟨_, rfl⟩
            have WX : Hid (VAt wb wr.heap.size v) := by rw [hwb]; exact LAt.stored Wa.out _
            have bb : Below wr.heap.size wr wb := by rw [hwb]; exact below_setRow ba (Nat.le_refl _) _
            have R2 : Hid (wb.rangeAt b2 (o2 + j * 32) (U8 v)) := rangeAt_same R2' (bb.block b2 M2')
            have M2 : Hid (b2 < wb.heap.size) := Nat.lt_of_lt_of_le M2' bb.size
            have Bb : Hid (Below w11.heap.size w11 wb) := below_then BR.out bb
            have QE : Hid (∀ w, (binOp .neq 23 (.agg (U8 v).toArray) (.agg (U8 v).toArray)).run Tryd.prog w = .ok (.bool false) w) := fun w => by have := neqV w v v LX.out LX.out; rw [decide_eq_true (rfl : v = v)] at this; exact this
            rw [← hwb] at S2
            clear hwb hwa hb1 hc1 hb2 hc2 hjv hju R1 R2' M2' VAr VBr Vr Wa Va ba bb Ba BR hjb
            go_wp2_with ((with_reducible refine at_ops ?_); (first | (refine wpList_load_is (by rfl) 23 rfl rfl L1.out ?_) | (refine wpList_alloc_is (by rfl) 23 rfl A1.out ?_) | (refine wpList_store_is (by rfl) 23 rfl rfl rfl S1.out ?_) | (refine wpList_load_is (by rfl) 23 rfl rfl L2.out ?_) | (refine wpList_store_is (by rfl) 23 rfl rfl rfl S2.out ?_)); simp only [Act.put, List.setIfInBounds_toArray, List.set_cons_zero, List.set_cons_succ])
            clear cr L1 A1 S1 L2 S2 hjq
            refine wp_region_noPanic ?_
            refine wp_region_held_drew (S := fun w' => Below wb.heap.size wb w') (by kernel_rfl) (below_drawn 1) (fun hHeld => ?_)
            refine wpAnyH_take (i := 0) (v := ?va18) (by simp; rfl) (by kernel_rfl) (by kernel_rfl) (by kernel_rfl) (fun _ _ _ h => h) (Or.inl ⟨by rfl, ?ya18⟩) hHeld ?ra18
            case ya18 => intro w hSw; clear hSw; go_simp; with_reducible rfl
            simp only [Act.put, List.setIfInBounds_toArray, List.set_cons_zero, List.set_cons_succ]
            refine wpAnyH_take (i := 1) (v := ?va19) (by simp; rfl) (by kernel_rfl) (by kernel_rfl) (by kernel_rfl) (fun _ _ _ h => h) (Or.inl ⟨by rfl, ?ya19⟩) hHeld ?ra19
            case ya19 => intro w hSw; clear hSw; go_simp; with_reducible rfl
            simp only [Act.put, List.setIfInBounds_toArray, List.set_cons_zero, List.set_cons_succ]
            refine wpAnyH_take (i := 2) (v := ?va20) (by simp; rfl) (by kernel_rfl) (by kernel_rfl) (by kernel_rfl) (fun _ _ _ h => h) (Or.inl ⟨by rfl, ?ya20⟩) hHeld ?ra20
            case ya20 => intro w hSw; clear hSw; go_simp; with_reducible rfl
            simp only [Act.put, List.setIfInBounds_toArray, List.set_cons_zero, List.set_cons_succ]
            refine wpAnyH_take (i := 3) (v := _) (by simp; rfl) (by kernel_rfl) (by kernel_rfl) (by kernel_rfl) (fun _ _ _ h => h) (yieldsIf_load_mid (by rfl) 23 (.tmp 155) rfl b2 (o2 + j * 32) rfl (U8 v) _ (fun _ h => rangeAt_same R2.out (h.block b2 M2.out)) Tryd.underlying23 rfl (by rw [sizeV, U8_length, LX.out])) hHeld ?_
            simp only [Act.put, List.setIfInBounds_toArray, List.set_cons_zero, List.set_cons_succ]
            refine wpAnyH_take (i := 4) (v := _) (by simp; rfl) (by kernel_rfl) (by kernel_rfl) (by kernel_rfl) (fun _ _ _ h => h) (yieldsIf_load_mid (by rfl) 23 (.tmp 21) rfl wr.heap.size 0 rfl (U8 v) _ (fun _ h => LAt.range (LAt.later WX.out h)) Tryd.underlying23 rfl (by rw [sizeV, U8_length, LX.out])) hHeld ?_
            simp only [Act.put, List.setIfInBounds_toArray, List.set_cons_zero, List.set_cons_succ]
            refine wpAnyH_take (i := 5) (v := _) (by simp; rfl) (by kernel_rfl) (by kernel_rfl) (by kernel_rfl) (fun _ _ _ h => h) (yields_neq_is (by rfl) 23 rfl rfl rfl eqgV QE.out) hHeld ?_
            simp only [Act.put, List.setIfInBounds_toArray, List.set_cons_zero, List.set_cons_succ]
            have Bc : Hid (Below w11.heap.size w11 wb.drew) := below_then Bb.out hHeld
            clear hHeld Bb QE R2 M2 WX
            refine wpAnyH_done (by kernel_rfl) (NoPanic.normal ?_) _
            go_wp2_with fail
            go_roundw
            case rel => exact ⟨j + 1, by omega, by go_num, Bc.out⟩
            case measure => simp [intOf]; omega
          · rw [if_neg hjb] at R2'
            have LX := LX1
            have hjq : (((j : Nat) : Int) == b) = false := by simp [hjb]
            have WX := Wa
            have R2 : Hid (wa.rangeAt b2 (o2 + j * 32) (U8 x)) := rangeAt_same R2' (ba.block b2 M2')
            have M2 : Hid (b2 < wa.heap.size) := Nat.lt_of_lt_of_le M2' ba.size
            have QE : Hid (∀ w, (binOp .neq 23 (.agg (U8 x).toArray) (.agg (U8 x).toArray)).run Tryd.prog w = .ok (.bool false) w) := fun w => by have := neqV w x x LX.out LX.out; rw [decide_eq_true (rfl : x = x)] at this; exact this
            clear hwa hb1 hc1 hb2 hc2 hjv hju R1 R2' M2' VAr VBr Vr Wa Va ba BR hjb
            go_wp2_with ((with_reducible refine at_ops ?_); (first | (refine wpList_load_is (by rfl) 23 rfl rfl L1.out ?_) | (refine wpList_alloc_is (by rfl) 23 rfl A1.out ?_) | (refine wpList_store_is (by rfl) 23 rfl rfl rfl S1.out ?_)); simp only [Act.put, List.setIfInBounds_toArray, List.set_cons_zero, List.set_cons_succ])
            clear cr L1 A1 S1 hjq
            refine wp_region_noPanic ?_
            refine wp_region_held_drew (S := fun w' => Below wa.heap.size wa w') (by kernel_rfl) (below_drawn 1) (fun hHeld => ?_)
            refine wpAnyH_take (i := 0) (v := ?va21) (by simp; rfl) (by kernel_rfl) (by kernel_rfl) (by kernel_rfl) (fun _ _ _ h => h) (Or.inl ⟨by rfl, ?ya21⟩) hHeld ?ra21
            case ya21 => intro w hSw; clear hSw; go_simp; with_reducible rfl
            simp only [Act.put, List.setIfInBounds_toArray, List.set_cons_zero, List.set_cons_succ]
            refine wpAnyH_take (i := 1) (v := ?va22) (by simp; rfl) (by kernel_rfl) (by kernel_rfl) (by kernel_rfl) (fun _ _ _ h => h) (Or.inl ⟨by rfl, ?ya22⟩) hHeld ?ra22
            case ya22 => intro w hSw; clear hSw; go_simp; with_reducible rfl
            simp only [Act.put, List.setIfInBounds_toArray, List.set_cons_zero, List.set_cons_succ]
            refine wpAnyH_take (i := 2) (v := ?va23) (by simp; rfl) (by kernel_rfl) (by kernel_rfl) (by kernel_rfl) (fun _ _ _ h => h) (Or.inl ⟨by rfl, ?ya23⟩) hHeld ?ra23
            case ya23 => intro w hSw; clear hSw; go_simp; with_reducible rfl
            simp only [Act.put, List.setIfInBounds_toArray, List.set_cons_zero, List.set_cons_succ]
            refine wpAnyH_take (i := 3) (v := _) (by simp; rfl) (by kernel_rfl) (by kernel_rfl) (by kernel_rfl) (fun _ _ _ h => h) (yieldsIf_load_mid (by rfl) 23 (.tmp 155) rfl b2 (o2 + j * 32) rfl (U8 x) _ (fun _ h => rangeAt_same R2.out (h.block b2 M2.out)) Tryd.underlying23 rfl (by rw [sizeV, U8_length, LX.out])) hHeld ?_
            simp only [Act.put, List.setIfInBounds_toArray, List.set_cons_zero, List.set_cons_succ]
            refine wpAnyH_take (i := 4) (v := _) (by simp; rfl) (by kernel_rfl) (by kernel_rfl) (by kernel_rfl) (fun _ _ _ h => h) (yieldsIf_load_mid (by rfl) 23 (.tmp 21) rfl wr.heap.size 0 rfl (U8 x) _ (fun _ h => LAt.range (LAt.later WX.out h)) Tryd.underlying23 rfl (by rw [sizeV, U8_length, LX.out])) hHeld ?_
            simp only [Act.put, List.setIfInBounds_toArray, List.set_cons_zero, List.set_cons_succ]
            refine wpAnyH_take (i := 5) (v := _) (by simp; rfl) (by kernel_rfl) (by kernel_rfl) (by kernel_rfl) (fun _ _ _ h => h) (yields_neq_is (by rfl) 23 rfl rfl rfl eqgV QE.out) hHeld ?_
            simp only [Act.put, List.setIfInBounds_toArray, List.set_cons_zero, List.set_cons_succ]
            have Bc : Hid (Below w11.heap.size w11 wa.drew) := below_then Ba.out hHeld
            clear hHeld Ba QE R2 M2 WX
            refine wpAnyH_done (by kernel_rfl) (NoPanic.normal ?_) _
            go_wp2_with fail
            go_roundw
            case rel => exact ⟨j + 1, by omega, by go_num, Bc.out⟩
            case measure => simp [intOf]; omega
        · have KR : Hid (KS w wr S7 s v p n (newS s) ws2) := K11.out.later BR.out
          have VBR : Hid (VIn wr qb m (vals s (n : Int) ws2 (newS s) m)) := VB11.out.later BR.out
          clear BR
          go_wp2_with fail
          clear cr
          refine (flush_any KR.out.dsk (by have := HW2.out.1; omega)).mono ?_
          rintro e wf ⟨rfl, df, kf⟩
          have VBF : Hid (VIn wf qb m (vals s (n : Int) ws2 (newS s) m)) := VBR.out.kept kf (fun a ha hs => by have := HQB.out a ha; have := H7.out _ hs; omega)
          have BF : Hid (Below w.heap.size w wf) := KR.out.below.trans (kf.below KR.out.below.size (fun k hs => by have := KR.out.lo k hs; omega))
          have CF : Hid (CAt wf w.heap.size s) := (kf.block _ (LAt.lt KR.out.box) (fun c => by have := KR.out.lo _ c; omega)).trans KR.out.box
          have DF : Hid (Dsk wf S7 p n (settle (fun _ => true) ws2 (newS s)) []) := df
          have AF : Hid (alS s (n : Int) [] (settle (fun _ => true) ws2 (newS s)) = (vals s (n : Int) ws2 (newS s) m, 0)) := by
            obtain ⟨q', cap', v', hp⟩ := KR.out.dsk
            show _ = _
            rw [al_flush hp.dl hp.fit, alS_ok HN.out.2 (by rw [← HM.out.1]; exact HW2.out.2.1), ← HM.out.1]
          have LF : Hid (_) := CAt.load23 CF.out
          clear df kf KR VBR
          generalize ws2.length = l3 at *
          go_wp2_with ((with_reducible refine at_ops ?_); (refine wpList_load_is (by rfl) 39 rfl rfl LF.out ?_); simp only [Act.put, List.setIfInBounds_toArray, List.set_cons_zero, List.set_cons_succ])
          clear LF
          refine (hall_any s DF.out (HT.out.later BF.out)).mono ?_
          rintro e wg ⟨qg, cg, rfl, og, bg⟩
          rw [AF.out] at og ⊢
          simp only [vals_length] at og ⊢
          have VG : Hid (VIn wg qg m (vals s (n : Int) ws2 (newS s) m)) := VIn.of_own og (vals_each _ _ _ _ _) (vals_length _ _ _ _ _)
          have VBG : Hid (VIn wg qb m (vals s (n : Int) ws2 (newS s) m)) := VBF.out.later bg
          have BG : Hid (Below w.heap.size w wg) := below_then BF.out bg
          clear og bg VBF BF CF DF AF
          go_wp2_with fail
          refine (same_vals qg qb m m cg cb _ _ wg VG.out VBG.out (by omega)).mono ?_
          rintro e wh ⟨rfl, bh⟩
          rw [decide_eq_true rfl]
          have BH : Hid (Below w.heap.size w wh) := below_then BG.out bh
          clear bh VG VBG BG
          go_wp2_with fail
          go_ret
          exact ⟨rfl, BH.out⟩
theorem homeKeeps_any (s : Sup) (b : Int) (v : List Int) (hv : v.length = 32) (hvb : Bytes v) (M : Int) (w : World) (ht : Tab w) :
    Calls Tryd.prog 6 #[.agg (ccells s).toArray, .int .i64 b, .agg (U8 v).toArray, .int .i64 M] w fun e w' => e = .returned (.bool true) ∧ Below w.heap.size w w' := by
  by_cases hc : MayC s
  · exact homeKeeps_good s hc b v hv hvb M w ht
  · exact homeKeeps_bad s hc b v M w ht
end Go.Proofs.YtpenddnmmfpdjaaDoor
