/-
  Layer 8, the program's functions, third part: All.
-/
import Derived.Test.YtpenddnmmfpdjaaDoorWb
namespace Go.Proofs.YtpenddnmmfpdjaaDoor
open Go.RowKit

/-- a list of values, cell by cell -/
def VC (vs : List (List Int)) : List Value := (vs.map U8).flatten
theorem VC_snoc (vs : List (List Int)) (v : List Int) : VC (vs ++ [v]) = VC vs ++ U8 v := by simp [VC]
theorem VC_length {vs : List (List Int)} (h : ∀ l ∈ vs, l.length = 32) : (VC vs).length = vs.length * 32 := by
  unfold VC
  rw [flat_length (m := 32) _ (fun l hl => by obtain ⟨x, hx, rfl⟩ := List.mem_map.1 hl; rw [U8_length]; exact h x hx)]
  simp
theorem VC_at {vs : List (List Int)} (h : ∀ l ∈ vs, l.length = 32) (i j : Nat) (hi : i < vs.length) (hj : j < 32) : (VC vs)[i * 32 + j]? = (U8 vs[i])[j]? := by
  unfold VC
  rw [Nat.mul_comm, flat_at (m := 32) (vs.map U8) (fun l hl => by obtain ⟨x, hx, rfl⟩ := List.mem_map.1 hl; rw [U8_length]; exact h x hx) i (by simpa using hi) j hj]
  simp
theorem VC_ones (vs : List (List Int)) : ∀ u ∈ VC vs, u.oneCell' = true := fun u hu => by
  obtain ⟨l, hl, hu⟩ := List.mem_flatten.1 hu
  obtain ⟨x, _, rfl⟩ := List.mem_map.1 hl
  exact ones_u8 x u hu

/-- cells stored in the middle of a row -/
theorem LAt.setCells {t : TypeId} {g : Nat} : ∀ (vs : List Value) (o : Nat) (w : World) (cs : List Value), LAt t w g cs → o + vs.length ≤ cs.length → LAt t (w.setCells g o vs) g (cs.take o ++ vs ++ cs.drop (o + vs.length))
  | [], o, w, cs, h, _ => by
    show LAt t w g _
    simpa using h
  | v :: r, o, w, cs, h, hl => by
    simp only [List.length_cons] at hl
    have := LAt.setCells r (o + 1) (w.setCell ⟨g, o, none⟩ v) (cs.set o v) (LAt.set h o v) (by rw [List.length_set]; omega)
    have e : (cs.set o v).take (o + 1) ++ r ++ (cs.set o v).drop (o + 1 + r.length) = cs.take o ++ v :: r ++ cs.drop (o + (r.length + 1)) := by
      rw [List.take_succ_eq_append_getElem (by rw [List.length_set]; omega), List.take_set_of_le (by omega), List.drop_set_of_lt (by omega), List.getElem_set_self]
      simp [Nat.add_comm, Nat.add_left_comm]
    rw [e] at this
    exact this
theorem LAt.there {t : TypeId} {w : World} {g : Nat} {cs : List Value} (h : LAt t w g cs) (o n : Nat) (hn : o + n ≤ cs.length) : w.there g o n := fun j hj => by
  refine ⟨?_, frozen_of_row w g (o + j) _ t h⟩
  rw [h.cell (o + j), List.getElem?_eq_getElem (by omega)]
  rfl
theorem LAt.otherCells {t : TypeId} {w : World} {g k o : Nat} {cs vs : List Value} (h : LAt t w g cs) (hk : g ≠ k) : LAt t (w.setCells k o vs) g cs := (setCells_other hk vs o w).trans h
theorem own_of_LAt {w : World} {base t g n size : Nat} {cs : List Value} (h : LAt t w g cs) (hl : cs.length = n * size) (hb : base ≤ g) (hn : n ≤ maxLen) : w.ownsRow base t size (.slice (some ⟨g, 0, none⟩) n n) n cs :=
  ⟨hl, .inr ⟨g, n, cs.toArray, rfl, hb, h, Nat.le_refl _, hn, by simpa using hl, by simp [← hl]⟩⟩
theorem info23 : (Tryd.prog.info? 23).map (fun i => (i.zero, i.size, i.bytes)) = some (some (.agg (List.replicate 32 (Value.int .u8 0)).toArray), 32, 32) := by kernel_rfl
/-- so much of the list is filled -/
def part8 (vs : List (List Int)) (m k : Nat) : List Value := VC vs ++ List.replicate (32 * (m - k)) (Value.int .u8 0)
theorem part8_step {vs : List (List Int)} {m k : Nat} (v : List Int) (h : ∀ l ∈ vs, l.length = 32) (hk : vs.length = k) (hm : k < m) (hv : v.length = 32) :
    (part8 vs m k).take (k * 32) ++ U8 v ++ (part8 vs m k).drop (k * 32 + (U8 v).length) = part8 (vs ++ [v]) m (k + 1) := by
  have hl := VC_length h
  rw [hk] at hl
  unfold part8
  rw [VC_snoc, U8_length, hv, List.take_append_of_le_length (by omega), List.take_of_length_le (by omega), List.drop_append, hl, List.drop_of_length_le (by omega), List.nil_append, List.drop_replicate]
  congr 2
  omega
theorem part8_len {vs : List (List Int)} {m k : Nat} (h : ∀ l ∈ vs, l.length = 32) (hk : vs.length = k) (hm : k ≤ m) : (part8 vs m k).length = m * 32 := by
  unfold part8
  rw [List.length_append, VC_length h, hk, List.length_replicate]
  omega

set_option maxHeartbeats 400000 in
set_option maxRecDepth 100000 in
theorem hall_nil (s : Sup) (w : World) :
    Calls Tryd.prog 15 #[.pointer none, .agg (ccells s).toArray] w fun e w' => e = .returned (.tuple #[.slice none 0 0, .int .i64 1]) ∧ Below w.heap.size w w' := by
  have L1 : Hid (_) := CAt.load23 (LAt.new 39 w (ccells s))
  have HB : Hid (Below w.heap.size w (w.alloc (.cells (ccells s).toArray 39))) := below_alloc w _
  go_enter Tryd.func15, Tryd.ntmps15
  go_wp2_with ((with_reducible refine at_ops ?_); (refine wpList_load_is (by rfl) 39 rfl rfl L1.out ?_); simp only [Act.put, List.setIfInBounds_toArray, List.set_cons_zero, List.set_cons_succ])
  refine (hrefuses_nil s _).mono ?_
  rintro e w1 ⟨rfl, b1⟩
  have HB1 : Hid (Below w.heap.size w w1) := below_then HB.out b1
  clear b1 HB L1
  go_wp2_with fail
  go_ret2
  exact ⟨rfl, HB1.out⟩
set_option maxHeartbeats 2000000 in
set_option maxRecDepth 100000 in
theorem hall_any (s : Sup) {w : World} {S : Nat → Prop} {p n : Nat} {d : List Int} {ws : List Wr} (h : Dsk w S p n d ws) (ht : Tab w) :
    Calls Tryd.prog 15 #[.pointer (some ⟨p, 0, none⟩), .agg (ccells s).toArray] w fun e w' => ∃ q c, e = .returned (.tuple #[.slice q (alS s n ws d).1.length c, .int .i64 (alS s n ws d).2]) ∧ w'.ownsRow w.heap.size 23 32 (.slice q (alS s n ws d).1.length c) (alS s n ws d).1.length (VC (alS s n ws d).1) ∧ Below w.heap.size w w' := by
  obtain ⟨i0, hi, hz0, hz1, hz2⟩ := info_parts info23
  have L1 : Hid (_) := CAt.load23 (LAt.new 39 w (ccells s))
  have HA : Hid (CAt (w.alloc (.cells (ccells s).toArray 39)) w.heap.size s) := LAt.new 39 w (ccells s)
  have HB : Hid (Below w.heap.size w (w.alloc (.cells (ccells s).toArray 39))) := below_alloc w _
  have HD : Hid (Dsk w S p n d ws) := h
  have HT : Hid (Tab w) := ht
  clear h ht
  go_enter Tryd.func15, Tryd.ntmps15
  go_wp2_with ((with_reducible refine at_ops ?_); (refine wpList_load_is (by rfl) 39 rfl rfl L1.out ?_); simp only [Act.put, List.setIfInBounds_toArray, List.set_cons_zero, List.set_cons_succ])
  refine (hrefuses_any s (HD.out.later HB.out)).mono ?_
  rintro e w1 ⟨rfl, b1⟩
  have HA1 : Hid (CAt w1 w.heap.size s) := LAt.later HA.out b1
  have HB1 : Hid (Below w.heap.size w w1) := below_then HB.out b1
  clear b1 HA HB L1
  by_cases hr : rfS s n = 0
  · have HR : Hid (rfS s n = 0) := hr
    have hbl := (rfS_zero hr).1.1
    obtain ⟨m, hm⟩ : ∃ m, m = s.bl.toNat := ⟨_, rfl⟩
    have hmi : s.bl = (m : Int) := by omega
    have hm1 : 1 ≤ m := by omega
    have hm2 : m ≤ 64 := by omega
    have HM : Hid (m = s.bl.toNat) := hm
    rw [hr]
    have c0 := CAt.c0 HA1.out
    rw [hmi] at c0
    clear hr hbl hm hmi
    have hmk := run_make (P := Tryd.prog) w1 41 23 i0 _ Tryd.underlying41 hi hz0 .i64 .i64 (m : Int) (m : Int) (by omega) (Int.le_refl _) (by rw [hz2]; omega) (by omega)
    rw [hz1] at hmk
    simp only [Int.toNat_natCast, Value.cells] at hmk
    rw [made_rep 32 _ (by omega)] at hmk
    obtain ⟨w2, hw2⟩ : ∃ x, x = w1.alloc (.cells (List.replicate (m * 32) (Value.int .u8 0)).toArray 23) := ⟨_, rfl⟩
    rw [← hw2] at hmk
    have A2 : Hid (CAt w2 w.heap.size s) := by rw [hw2]; exact LAt.later HA1.out (below_alloc w1 _)
    have B2 : Hid (Below w.heap.size w w2) := by rw [hw2]; exact below_then HB1.out (below_alloc w1 _)
    have V2 : Hid (LAt 23 w2 w1.heap.size (part8 [] m 0)) := by
      have e : part8 [] m 0 = List.replicate (m * 32) (Value.int .u8 0) := by simp [part8, VC, Nat.mul_comm]
      rw [hw2, e]
      exact LAt.new 23 w1 _
    have hg : w.heap.size < w1.heap.size := LAt.lt HA1.out
    have HG : Hid (w.heap.size < w1.heap.size) := hg
    generalize w1.heap.size = g at *
    clear hw2 HA1 HB1 hg
    go_wp2_with fail
    clear hmk c0
    go_loopw [22] (fun i wr => ∃ k : Nat, k ≤ m ∧ i = .int .i64 k ∧ Hid (CAt wr w.heap.size s ∧ LAt 23 wr g (part8 (vals s n ws d k) m k) ∧ Below w.heap.size w wr ∧ allB s n ws d k)) (fun i _ => m - (intOf i).toNat)
    case atStart => exact ⟨0, Nat.zero_le _, rfl, A2.out, V2.out, B2.out, allB_iff.2 (fun i hi => by omega)⟩
    case round =>
      obtain ⟨k, hk, rfl, HI⟩ := hrel
      clear A2 V2 B2
      have Ar : Hid (CAt wr w.heap.size s) := HI.out.1
      have Vr : Hid (LAt 23 wr g (part8 (vals s n ws d k) m k)) := HI.out.2.1
      have Br : Hid (Below w.heap.size w wr) := HI.out.2.2.1
      have Kr : Hid (allB s n ws d k) := HI.out.2.2.2
      clear HI
      by_cases hlt : k < m
      · have L3 : Hid (_) := CAt.load23 Ar.out
        go_wp2_with ((with_reducible refine at_ops ?_); (refine wpList_load_is (by rfl) 39 rfl rfl L3.out ?_); simp only [Act.put, List.setIfInBounds_toArray, List.set_cons_zero, List.set_cons_succ])
        refine (hload_any s (k : Int) (HD.out.later Br.out) (HT.out.later Br.out)).mono ?_
        rintro e w3 ⟨rfl, b3⟩
        have A3 : Hid (CAt w3 w.heap.size s) := LAt.later Ar.out b3
        have V3 : Hid (LAt 23 w3 g (part8 (vals s n ws d k) m k)) := LAt.later Vr.out b3
        have B3 : Hid (Below w.heap.size w w3) := below_then Br.out b3
        have HL : Hid ((ldS s n ws d (k : Int)).1.length = 32) := ldS_len _ _ _ _ _
        have HX : Hid (vals s n ws d (k + 1) = vals s n ws d k ++ [(ldS s n ws d (k : Int)).1]) := vals_succ _ _ _ _ _
        have HZ : Hid ((ldS s n ws d (k : Int)).2 = 0 → allB s n ws d (k + 1)) := fun h => allB_succ Kr.out h
        have HQ : Hid (¬ (ldS s n ws d (k : Int)).2 = 0 → (ldS s n ws d (k : Int)).2 = 80 ∧ alS s n ws d = ([], 80)) := fun h => by
          obtain ⟨q', cap', v', hp⟩ := HD.out
          exact ⟨ldS_err hp.dl hp.fit (rbS_ok HR.out ⟨by omega, by have := HM.out; omega⟩) h, alS_bad HR.out k (by have := HM.out; omega) h⟩
        obtain ⟨r, hr0⟩ : ∃ r, r = ldS s n ws d (k : Int) := ⟨_, rfl⟩
        rw [← hr0] at HL HX HZ HQ ⊢
        clear hr0 b3 L3 Ar Vr Br Kr
        have A4 : Hid (_) := allocV w3
        have S4 : Hid (_) := store_newV w3 r.1 HL.out
        have L4 : Hid (_) := VAt.load (LAt.new 23 w3 (U8 r.1)) HL.out
        obtain ⟨w4, hw4⟩ : ∃ x, x = w3.alloc (.cells (U8 r.1).toArray 23) := ⟨_, rfl⟩
        have D4 : Hid (CAt w4 w.heap.size s) := by rw [hw4]; exact LAt.later A3.out (below_alloc _ _)
        have V4 : Hid (LAt 23 w4 g (part8 (vals s n ws d k) m k)) := by rw [hw4]; exact LAt.later V3.out (below_alloc _ _)
        have B4 : Hid (Below w.heap.size w w4) := by rw [hw4]; exact below_then B3.out (below_alloc _ _)
        rw [← hw4] at S4 L4
        clear hw4
        by_cases hz : r.2 = 0
        · have hq : (r.2 != 0) = false := by simp [hz]
          have HP : Hid ((part8 (vals s n ws d k) m k).length = m * 32) := part8_len (vals_each _ _ _ _ _) (vals_length _ _ _ _ _) (by omega)
          have T4 : Hid (_) := run_storeAt_mid (P := Tryd.prog) w4 g (k * 32) 23 (U8 r.1).toArray (LAt.there V4.out (k * 32) _ (by rw [HP.out]; simp [HL.out]; omega)) (by rw [sizeV]; simp [HL.out]) (allV r.1)
          have F4 : Hid (CAt (w4.setCells g (k * 32) (U8 r.1)) w.heap.size s ∧ LAt 23 (w4.setCells g (k * 32) (U8 r.1)) g (part8 (vals s n ws d (k + 1)) m (k + 1)) ∧ Below w.heap.size w (w4.setCells g (k * 32) (U8 r.1)) ∧ allB s n ws d (k + 1)) := by
            refine ⟨LAt.otherCells D4.out (by have := HG.out; omega), ?_, below_setCells (by have := HG.out; omega) _ _ _ _ B4.out, HZ.out hz⟩
            have := LAt.setCells (U8 r.1) (k * 32) w4 _ V4.out (by rw [HP.out, U8_length, HL.out]; omega)
            rw [part8_step r.1 (vals_each _ _ _ _ _) (vals_length _ _ _ _ _) hlt HL.out, ← HX.out] at this
            exact this
          clear hz HZ HQ HX A3 V3 B3
          go_wp2_with ((with_reducible refine at_ops ?_); (first | (refine wpList_alloc_is (by rfl) 23 rfl A4.out ?_) | (refine wpList_store_is (by rfl) 23 rfl rfl rfl S4.out ?_) | (refine wpList_load_is (by rfl) 23 rfl rfl L4.out ?_) | (refine wpList_store_is (by rfl) 23 rfl rfl rfl T4.out ?_)); simp only [Act.put, List.setIfInBounds_toArray, List.set_cons_zero, List.set_cons_succ])
          go_roundw
          case rel => exact ⟨k + 1, by omega, by go_num, F4.out⟩
          case measure => simp [intOf]; omega
        · have hq : (r.2 != 0) = true := by simp [hz]
          have HE : Hid (alS s n ws d = ([], 80)) := (HQ.out hz).2
          have HE2 : Hid (r.2 = 80) := (HQ.out hz).1
          clear hz HZ HQ HX A3 V3 B3
          go_wp2_with ((with_reducible refine at_ops ?_); (first | (refine wpList_alloc_is (by rfl) 23 rfl A4.out ?_) | (refine wpList_store_is (by rfl) 23 rfl rfl rfl S4.out ?_)); simp only [Act.put, List.setIfInBounds_toArray, List.set_cons_zero, List.set_cons_succ])
          go_ret2
          rw [HE.out]
          refine ⟨none, 0, ?_, World.ownsRow_nil _ _ _ _, B4.out⟩
          rw [← HE2.out]
          rfl
      · obtain rfl : m = k := by omega
        have HE : Hid (alS s n ws d = (vals s n ws d m, 0)) := by
          show _ = _
          rw [alS_ok HR.out (by rw [← HM.out]; exact Kr.out), ← HM.out]
        have F5 : Hid (wr.ownsRow w.heap.size 23 32 (.slice (some ⟨g, 0, none⟩) m m) m (VC (vals s n ws d m))) := by
          have e : part8 (vals s n ws d m) m m = VC (vals s n ws d m) := by simp [part8]
          have := Vr.out
          rw [e] at this
          exact own_of_LAt this (by rw [VC_length (vals_each _ _ _ _ _), vals_length]) (by have := HG.out; omega) (by unfold maxLen; omega)
        clear Vr Kr Ar
        go_wp2_with fail
        go_ret2
        rw [HE.out]
        refine ⟨some ⟨g, 0, none⟩, m, ?_, ?_, Br.out⟩
        · rw [vals_length]; rfl
        · rw [vals_length]; exact F5.out
  · have HR : Hid (alS s n ws d = ([], rfS s n)) := alS_no ws d hr
    obtain ⟨q, hq0⟩ : ∃ q, q = rfS s n := ⟨_, rfl⟩
    rw [← hq0] at hr HR ⊢
    have hq : (q != 0) = true := by simp [hr]
    clear hq0
    go_wp2_with fail
    go_ret2
    rw [HR.out]
    exact ⟨none, 0, rfl, World.ownsRow_nil _ _ _ _, HB1.out⟩
end Go.Proofs.YtpenddnmmfpdjaaDoor
