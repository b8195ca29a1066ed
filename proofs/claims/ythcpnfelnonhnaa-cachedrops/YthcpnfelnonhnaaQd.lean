/-
  Layer 17: the law's own value and rising.
-/
import Derived.Test.YthcpnfelnonhnaaQc
import Derived.BigQuiet
namespace Go.Proofs.Ythcpnfelnonhnaa
open Go.RowKit

abbrev I64 (xs : List Int) : List Value := xs.map (Value.int .i64)
theorem ones_i64 (xs : List Int) : ∀ v ∈ I64 xs, v.oneCell' = true := by
  intro u hu; obtain ⟨x, _, rfl⟩ := List.mem_map.1 hu; rfl
/-- the value of a commit, at a block -/
def valS (f b : Int) : List Int := f :: b :: 1 :: zs 29
theorem valS_len (f b : Int) : (valS f b).length = 32 := rfl
theorem valS_bytes {f b : Int} (hf : 0 ≤ f ∧ f < 256) (hb : 0 ≤ b ∧ b < 256) : Bytes (valS f b) := fun x hx => by
  rcases List.mem_cons.1 hx with rfl | hx
  · exact hf
  · rcases List.mem_cons.1 hx with rfl | hx
    · exact hb
    · rcases List.mem_cons.1 hx with rfl | hx
      · omega
      · exact zs_bytes 29 x hx
theorem buildS (w : World) (f b : Int) : (Instr.build 28 #[(0, .int .u8 f), (1, .int .u8 b), (2, .int .u8 1)]).run Try.prog w = .ok (.agg (U8 (valS f b)).toArray) w := run_build w 28 _ _ (by kernel_rfl)
set_option maxHeartbeats 2000000 in
set_option maxRecDepth 100000 in
theorem value_at (f b : Int) (hb : 0 ≤ b ∧ b < 256) (w : World) : Calls Try.prog 18 #[.int .u8 f, .int .i64 b] w fun e w' => e = .returned (.agg (U8 (valS f b)).toArray) ∧ Below w.heap.size w w' := by
  obtain ⟨u1, w1, hu, hz, hv, hbl, -⟩ := newV w (valS f b) (valS_len f b)
  have A1 : Hid ((Instr.alloc 28 true (.tuple #[])).run Try.prog w = .ok (.pointer (some ⟨w.heap.size, 0, none⟩)) u1) := hu
  have T1 : Hid ((Instr.storeAt 28 (.pointer (some ⟨w.heap.size, 0, none⟩)) (.agg (U8 (valS f b)).toArray)).run Try.prog u1 = .ok () w1) := hz
  have G1 : Hid ((Instr.build 28 #[(0, .int .u8 f), (1, .int .u8 b), (2, .int .u8 1)]).run Try.prog u1 = .ok (.agg (U8 (valS f b)).toArray) u1) := buildS u1 f b
  have HV : Hid (VAt w1 w.heap.size (valS f b)) := hv
  have HB : Hid (Below w.heap.size w w1) := hbl
  have hw8 : IntKind.u8.wrap b = b := by rw [IntKind.wrap_u8]; omega
  clear hu hz hv hbl
  go_enter Try.func18, Try.ntmps18
  go_wp2_with ((with_reducible refine at_ops ?_); (first | ((first | (refine wpList_alloc_is (by rfl) 28 rfl A1.out ?_) | (refine wpList_build_is (vs := [(0, .int .u8 f), (1, .int .u8 b), (2, .int .u8 1)]) (by rfl) 28 rfl (by rfl) G1.out ?_)); simp only [Act.put, List.setIfInBounds_toArray, List.set_cons_zero, List.set_cons_succ]) | ((refine wpList_store_is (by rfl) 28 rfl rfl rfl T1.out ?_); simp only [Act.put])))
  (try simp only [Exit.inBlock, Exit.then])
  exact bodyPost_ret (results_lat1 Try.results18 _ _ w.heap.size 28 _ _ (by rfl) HV.out Try.underlying28 rfl (by rw [sizeV, U8_length]; rfl)) rfl ⟨rfl, HB.out⟩
/-- blocks that rise, from 0 on, below m -/
structure Rsn (R : List Int) (m : Int) : Prop where
  up : R.Pairwise (· < ·)
  ins : ∀ x ∈ R, 0 ≤ x ∧ x < m
theorem Rsn.nil : Rsn [] 0 := ⟨List.Pairwise.nil, fun _ h => by cases h⟩
theorem Rsn.more {R : List Int} {m : Int} (h : Rsn R m) : Rsn R (m + 1) := ⟨h.up, fun x hx => ⟨(h.ins x hx).1, by have := (h.ins x hx).2; omega⟩⟩
theorem Rsn.snoc {R : List Int} {m : Int} (h : Rsn R m) (h0 : 0 ≤ m) : Rsn (R ++ [m]) (m + 1) := by
  refine ⟨List.pairwise_append.2 ⟨h.up, List.pairwise_singleton _ _, fun x hx y hy => ?_⟩, fun x hx => ?_⟩
  · rw [List.mem_singleton.1 hy]; exact (h.ins x hx).2
  · rcases List.mem_append.1 hx with hx | hx
    · exact h.more.ins x hx
    · rw [List.mem_singleton.1 hx]; omega
theorem rsn_len : ∀ {R : List Int} {a m : Int}, R.Pairwise (· < ·) → (∀ x ∈ R, a ≤ x ∧ x < m) → (R.length : Int) ≤ max (m - a) 0
  | [], _, _, _, _ => by simp; omega
  | x :: R, a, m, hu, h => by
    have h0 := h x List.mem_cons_self
    have ih := rsn_len (a := x + 1) (m := m) (List.pairwise_cons.1 hu).2 fun y hy => ⟨by have := (List.pairwise_cons.1 hu).1 y hy; omega, (h y (List.mem_cons_of_mem _ hy)).2⟩
    rw [List.length_cons]
    omega
theorem Rsn.len {R : List Int} {m : Int} (h : Rsn R m) (h0 : 0 ≤ m) : (R.length : Int) ≤ m := by
  have := rsn_len h.up h.ins; omega
theorem rem8 (x : Int) : IntKind.i64.wrap (x.tmod 8 + 8) = x.tmod 8 + 8 ∧ (x.tmod 8 + 8).tmod 8 = x % 8 := by
  have h1 : x.tmod 8 < 8 := Int.tmod_lt_of_pos x (by decide)
  have h2 : -8 < x.tmod 8 := Int.lt_tmod_of_pos x (by decide)
  constructor
  · rw [IntKind.wrap_i64]; omega
  · rw [Int.tmod_eq_emod_of_nonneg (by omega)]
    have : x = 8 * (x.tdiv 8) + x.tmod 8 := (Int.mul_tdiv_add_tmod x 8).symm
    omega
set_option maxHeartbeats 2000000 in
set_option maxRecDepth 100000 in
theorem rising_at {w : World} {p : Option Addr} {n c : Nat} {ss : List Int} (h : IIn w .i64 p n ss) (hn : n ≤ 140737488355328) : Calls Try.prog 17 #[.slice p n c, .int .i64 8] w fun e w' => ∃ v R, e = .returned v ∧ w'.ownsRow w.heap.size 3 1 v R.length (I64 R) ∧ Rsn R 8 ∧ Below w.heap.size w w' := by
  have HI : Hid (IIn w .i64 p n ss) := h
  have HL : Hid (ss.length = n) := h.len
  clear h
  go_enter Try.func17, Try.ntmps17
  go_wp2_with fail
  go_loopw [5, 6] (fun v v2 W => ∃ (k : Nat) (R : List Int) (p2 : Option Addr) (m2 c2 : Nat), v = .slice p2 m2 c2 ∧ v2 = .int .i64 (k : Int) ∧ k ≤ 8 ∧ Hid (m2 = R.length) ∧ Hid (O.FR w W w.heap.size 3 1 (.slice p2 m2 c2) R.length (I64 R)) ∧ Hid (Rsn R k)) (fun _ v _ => 8 - (intOf v).toNat)
  case atStart => exact ⟨0, [], none, 0, 0, rfl, rfl, by omega, (rfl : 0 = ([] : List Int).length), (⟨World.ownsRow_nil _ _ _ _, Below.refl _ _, fun g hg => by cases hg⟩ : O.FR w w w.heap.size 3 1 (.slice none 0 0) 0 []), Rsn.nil⟩
  case round =>
    obtain ⟨k, R, p2, m2, c2, rfl, rfl, hk, HM, HF, HR⟩ := hrel
    by_cases hlt : k < 8
    · have HML : Hid (R.length ≤ 8) := by have := HR.out.len (by omega); show _ ≤ _; omega
      go_wp2_with fail
      obtain ⟨wo, hwo⟩ : ∃ wo, wo = wr := ⟨_, rfl⟩
      rw [← hwo] at HF ⊢
      clear hwo
      go_loopw [5, 7] (fun v5 v W => ∃ (i : Nat), v5 = .slice p2 m2 c2 ∧ v = .int .i64 (i : Int) ∧ i ≤ n ∧ W = wo) (fun _ v _ => n - (intOf v).toNat)
      case atStart => exact ⟨0, rfl, rfl, by omega, rfl⟩
      case round =>
        obtain ⟨i, rfl, rfl, hi, rfl⟩ := hrel
        by_cases hin : i < n
        · obtain ⟨b1, o1, rfl, hc⟩ := HI.out.cells (by omega)
          have hil : i < ss.length := by rw [HL.out]; exact hin
          have hx := (HF.out.below.cell (p := ⟨b1, o1 + i, none⟩) (World.block_lt_of_cell? w ⟨b1, o1 + i, none⟩ (hc i hil))).trans (hc i hil)
          have r1 := (rem8 ss[i]).1
          have r2 := (rem8 ss[i]).2
          have i1 : (i : Int) < (n : Int) := by omega
          generalize ss[i] = x at *
          by_cases hz : x % 8 = (k : Int)
          · have hz2 : (x % 8 == (k : Int)) = true := by rw [beq_iff_eq]; exact hz
            obtain ⟨wB, hwB⟩ : ∃ wB, wB = wr.alloc (.cells #[.int .i64 (k : Int)] 3) := ⟨_, rfl⟩
            have bB : Below wr.heap.size wr wB := by rw [hwB]; exact below_alloc _ _
            have oB : O.One wB wr.heap.size 3 (.int .i64 (k : Int)) := by rw [hwB]; exact O.One.made _ _ _
            have fB : wB.ownsRow w.heap.size 3 1 (.slice p2 m2 c2) R.length (I64 R) := O.own_later HF.out.own bB
            obtain ⟨v', w', hap, ho, hK, hat⟩ := O.run_own O.elI fB 54 ⟨wr.heap.size, 0, none⟩ 1 1 [.int .i64 (k : Int)] rfl oB.news (O.one_one rfl) (by have := HML.out; omega) (by have := HF.out.below.size; have := bB.size; omega)
            have HAP : Hid ((Builtin.append_ #[54, 54] 54 #[.slice p2 m2 c2, .slice (some ⟨wr.heap.size, 0, none⟩) 1 1]).run Try.prog (wr.alloc (.cells #[.int .i64 (k : Int)] 3)) = .ok v' w') := by rw [← hwB]; exact hap
            obtain ⟨p3, m3, c3, rfl, hm3⟩ : ∃ p3 m3 c3, v' = .slice p3 m3 c3 ∧ m3 = R.length + 1 := by obtain ⟨p3, c3, e3, -, -⟩ := O.own_form ho; exact ⟨p3, _, c3, e3, rfl⟩
            have hFB : O.FR w wB w.heap.size 3 1 (.slice p2 m2 c2) R.length (I64 R) := ⟨fB, below_then HF.out.below bB, HF.out.new⟩
            have HF2 : Hid (O.FR w w' w.heap.size 3 1 (.slice p3 m3 c3) (R ++ [(k : Int)]).length (I64 (R ++ [(k : Int)]))) := by
              have := hFB.app ho hK hat
              show O.FR _ _ _ _ _ _ _ _
              rw [List.length_append, List.length_singleton, show I64 (R ++ [(k : Int)]) = I64 R ++ [.int .i64 (k : Int)] by simp [I64]]
              exact this
            have HR2 : Hid (Rsn (R ++ [(k : Int)]) ((k + 1 : Nat) : Int)) := by
              have := HR.out.snoc (by omega)
              show Rsn _ _
              rw [show ((k + 1 : Nat) : Int) = (k : Int) + 1 by omega]; exact this
            have HM2 : Hid (m3 = (R ++ [(k : Int)]).length) := by show _ = _; rw [hm3]; simp
            clear hwB bB oB fB hap ho hK hat hFB hz hm3 hc hil
            go_wp2_with ((with_reducible refine at_ops ?_); (refine wpList_append_is (u1 := .slice p2 m2 c2) (u2 := .slice (some ⟨wr.heap.size, 0, none⟩) 1 1) (by rfl) rfl rfl rfl rfl HAP.out ?_); simp only [Act.put, List.setIfInBounds_toArray, List.set_cons_zero, List.set_cons_succ])
            go_roundw
            case rel => exact ⟨k + 1, R ++ [(k : Int)], p3, m3, c3, rfl, by congr 1, by omega, HM2, HF2, HR2⟩
            case measure => simp [intOf]; omega
          · have hz2 : (x % 8 == (k : Int)) = false := by rw [beq_eq_false_iff_ne]; exact hz
            clear hz hc hil
            go_wp2_with fail
            go_roundw
            case rel => exact ⟨i + 1, rfl, by congr 1, by omega, trivial⟩
            case measure => simp [intOf]; omega
        · have HR2 : Hid (Rsn R ((k + 1 : Nat) : Int)) := by
            have := HR.out.more
            show Rsn _ _
            rw [show ((k + 1 : Nat) : Int) = (k : Int) + 1 by omega]; exact this
          go_wp2_with fail
          go_roundw
          case rel => exact ⟨k + 1, R, p2, m2, c2, rfl, by congr 1, by omega, HM, HF, HR2⟩
          case measure => simp [intOf]; omega
    · have e8 : k = 8 := by omega
      have HR2 : Hid (Rsn R 8) := by have := HR.out; rw [e8] at this; exact this
      clear e8
      go_wp2
      go_ret
      exact ⟨_, R, rfl, HF.out.own, HR2.out, HF.out.below⟩
end Go.Proofs.Ythcpnfelnonhnaa
