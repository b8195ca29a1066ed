/-
  Layer 17: CachePlays.
-/
import Derived.Test.YthcpnfelnonhnaaDoorTj
import Derived.Test.YthcpnfelnonhnaaDoorTp
namespace Go.Proofs.YthcpnfelnonhnaaDoor
open Go.RowKit

namespace W
theorem Fam.fresh {w0 we w : World} {T : Nat → Th} {G : Nat → Prop} (h : Fam w0 we T G) (hle : w0.heap.size ≤ we.heap.size) (hb : Below we.heap.size we w) (k : Nat) {u : Th} (hu : u.at w G) (hf : ∀ b, u.foot b → we.heap.size ≤ b) : Fam w0 w (put T k u) G :=
  (h.later hb).new hu hf hle fun b hb2 => ⟨fun hg => by have := h.glt b hg; omega, fun j hj _ hx => by have := Th.lt (h.at' j hj) hx; omega⟩
/-- nothing was handed out yet -/
def T0 : Nat → Th := put (put (put (put (put (fun _ => .no) 4 (.lc (.slice none 0 0) [] [])) 5 (.lr (.slice none 0 0) [] [])) 6 (.sq (.slice none 0 0) [])) 7 (.row 3 (.slice none 0 0) (I6 []))) 8 (.row 3 (.slice none 0 0) (I6 []))
theorem T0_fam (w : World) : Fam w w T0 (fun _ => False) := by
  have f0 : Fam w w (fun _ => Th.no) (fun _ => False) := ⟨fun _ _ => trivial, fun _ _ _ h => h.elim, fun _ _ _ _ _ _ h => h.elim, fun _ _ _ h => h.elim, fun _ h => h.elim⟩
  have hn : ∀ b, (Value.slice none 0 0).ownBlock = some b → False := fun b h => by cases h
  have hl : ∀ b, LFt (.slice none 0 0) [] b → False := fun b h => by
    rcases h with h | ⟨u, hu, _⟩
    · cases h
    · cases hu
  have f4 := f0.add (k := 4) (u := .lc (.slice none 0 0) [] []) (Ls.nil _ _ _ _ _ _ _) (fun b hb => (hl b hb).elim)
  have f5 := f4.add (k := 5) (u := .lr (.slice none 0 0) [] []) (Ls.nil _ _ _ _ _ _ _) (fun b hb => (hl b hb).elim)
  have f6 := f5.add (k := 6) (u := .sq (.slice none 0 0) []) ⟨World.ownsRow_nil _ _ _ _, fun _ h => by cases h⟩ (fun b hb => (hn b hb).elim)
  have f7 := f6.add (k := 7) (u := .row 3 (.slice none 0 0) (I6 [])) (World.ownsRow_nil _ _ _ _) (fun b hb => (hn b hb).elim)
  exact f7.add (k := 8) (u := .row 3 (.slice none 0 0) (I6 [])) (World.ownsRow_nil _ _ _ _) (fun b hb => (hn b hb).elim)
/-- the start -/
theorem St.start {wa w1 w2 w3 w4 : World} {n : Int} {Q0 Q1 R0 R1 : Nat} {v1 r1 : Value} (h1 : 1 ≤ n) (h64 : n ≤ 64) (b1 : Below wa.heap.size wa w1) (c1 : CAt w1 Q0 n (.slice none 0 0) [] 0) (q0 : Q0 = wa.heap.size) (b2 : Below w1.heap.size w1 w2) (d2 : RAt w2 R0 n (.slice none 0 0) [] false 0) (hr0 : R0 = w1.heap.size)
    (h3 : NewC w2 w3 Q1 n v1 [] 0) (h4 : NewR w3 w4 R1 n r1 [] false 0) : St wa (w4.alloc (.cells #[qp Q0, qp Q1, qp R0, qp R1, .slice none 0 0, .slice none 0 0, .slice none 0 0, .slice none 0 0, .int .i64 0, .int .i64 0, .slice none 0 0] 42)) w4.heap.size n 0 := by
  have hn : ∀ b, (Value.slice none 0 0).ownBlock = some b → False := fun b h => by cases h
  have f1 : Fam wa w1 (put T0 0 (.cac Q0 n (.slice none 0 0) [] 0)) _ := (T0_fam wa).fresh (Nat.le_refl _) b1 0 c1 (fun b hb => hb.elim (fun e => by rw [e, q0]; exact Nat.le_refl _) (fun e => (hn b e).elim))
  have f2 : Fam wa w2 (put (put T0 0 (.cac Q0 n (.slice none 0 0) [] 0)) 2 (.ref R0 n (.slice none 0 0) [] false 0)) _ := f1.fresh b1.size b2 2 d2 (fun b hb => hb.elim (fun e => by rw [e, hr0]; exact Nat.le_refl _) (fun e => (hn b e).elim))
  have b12 := below_then b1 b2
  have f3 : Fam wa w3 (put (put (put T0 0 (.cac Q0 n (.slice none 0 0) [] 0)) 2 (.ref R0 n (.slice none 0 0) [] false 0)) 1 (.cac Q1 n v1 [] 0)) _ := f2.fresh b12.size h3.below 1 h3.at' (fun b hb => hb.elim (fun e => e ▸ h3.q) (fun e => h3.row b e))
  have b13 := below_then b12 h3.below
  have f4 : Fam wa w4 (put (put (put (put T0 0 (.cac Q0 n (.slice none 0 0) [] 0)) 2 (.ref R0 n (.slice none 0 0) [] false 0)) 1 (.cac Q1 n v1 [] 0)) 3 (.ref R1 n r1 [] false 0)) _ := f3.fresh b13.size h4.below 3 h4.at' (fun b hb => hb.elim (fun e => e ▸ h4.q) (fun e => h4.row b e))
  have b14 := below_then b13 h4.below
  have f5 := f4.later (below_alloc w4 (.cells #[qp Q0, qp Q1, qp R0, qp R1, .slice none 0 0, .slice none 0 0, .slice none 0 0, .slice none 0 0, .int .i64 0, .int .i64 0, .slice none 0 0] 42))
  have ok0 : Okc n [] (nxR false 0) := Okc.new h1 h64
  refine ⟨_, _, fun _ => [], fun _ => false, fun _ => 0, fun _ => 0, ⟨f5, heap_alloc_new w4 _, b14.size, fun i hi hf => by have := Th.lt (f4.at' i hi) hf; omega, fun h => h, below_then b14 (below_alloc w4 _)⟩, ⟨fun j _ => ⟨ok0, ⟨by omega, by omega⟩, fun _ => rfl⟩, fun j _ => ⟨by omega, by omega⟩, fun j hj => ?_, ⟨_, _, _, _, [], rfl, rfl, Nat.le_refl _, fun _ h => by cases h⟩, ⟨fun j => if j = 0 then Q0 else Q1, fun j => if j = 0 then .slice none 0 0 else v1, _, _, _, [], [], [], fun j hj => ?_, rfl, rfl, rfl, rfl, rfl, Nat.le_refl _, fun k hk => by cases hk⟩⟩⟩
  · rcases (show j = 0 ∨ j = 1 by omega) with rfl | rfl
    · exact ⟨R0, _, rfl⟩
    · exact ⟨R1, _, rfl⟩
  · rcases (show j = 0 ∨ j = 1 by omega) with rfl | rfl
    · rfl
    · rfl
section
variable {w : World} {n : Int}
set_option maxRecDepth 100000 in
set_option maxHeartbeats 4000000 in
theorem cachePlays_any
    (n : Int) (pp : Option Addr) (m c : Nat) (f : Nat → OpV) (hT : Tab w) (hS : ScIn w pp m f) (hm : m ≤ 140737488355328) : Calls Tryd.prog 3 #[.int .i64 n, .slice pp m c] w fun e w' => e = .returned (.bool true) ∧ Below w.heap.size w w' := by
  have HSC : Hid (ScIn w pp m f) := hS
  clear hS
  go_enter Tryd.func3, Tryd.ntmps3
  go_wp2_with fail
  refine (fixed_is w).mono ?_
  rintro e wa ⟨rfl, ba⟩
  have HBA : Hid (Below w.heap.size w wa) := ba
  have hTa : Tab wa := hT.later ba
  clear ba
  by_cases hn : 1 ≤ n ∧ n ≤ 64
  · go_wp2_with fail
    refine (new_at hn.1 hn.2 wa).mono ?_
    rintro e w1 ⟨rfl, hc1, b1⟩
    have HC1 : Hid (CAt w1 wa.heap.size n (.slice none 0 0) [] 0) := hc1
    have HB1 : Hid (Below wa.heap.size wa w1) := b1
    clear hc1 b1
    go_wp2_with fail
    refine (rnew_at hn.1 hn.2 w1).mono ?_
    rintro e w2 ⟨rfl, hd2, b2⟩
    have HD2 : Hid (RAt w2 w1.heap.size n (.slice none 0 0) [] false 0) := hd2
    have HB2 : Hid (Below w1.heap.size w1 w2) := b2
    have HC2 : Hid (CAt w2 wa.heap.size n (.slice none 0 0) [] 0) := HC1.out.later b2
    clear hd2 b2
    go_wp2_with fail
    refine (copy_at HC2.out (Okc.new hn.1 hn.2)).mono ?_
    rintro e w3 ⟨Q1, v1, rfl, h3⟩
    have H3 : Hid (NewC w2 w3 Q1 n v1 [] 0) := h3
    clear h3
    go_wp2_with fail
    refine (rcopy_at (HD2.out.later H3.out.below) (by simp)).mono ?_
    rintro e w4 ⟨R1, r1, rfl, h4⟩
    have HST : Hid (St wa (w4.alloc (.cells #[qp wa.heap.size, qp Q1, qp w1.heap.size, qp R1, .slice none 0 0, .slice none 0 0, .slice none 0 0, .slice none 0 0, .int .i64 0, .int .i64 0, .slice none 0 0] 42)) w4.heap.size n 0) := St.start hn.1 hn.2 HB1.out HC1.out rfl HB2.out HD2.out rfl H3.out h4
    obtain ⟨w5, hw5⟩ : ∃ w5, w4.alloc (.cells #[.pointer (some ⟨wa.heap.size, 0, none⟩), .pointer (some ⟨Q1, 0, none⟩), .pointer (some ⟨w1.heap.size, 0, none⟩), .pointer (some ⟨R1, 0, none⟩), .slice none 0 0, .slice none 0 0, .slice none 0 0, .slice none 0 0, .int .i64 0, .int .i64 0, .slice none 0 0] 42) = w5 := ⟨_, rfl⟩
    obtain ⟨P, hP⟩ : ∃ P, w4.heap.size = P := ⟨_, rfl⟩
    have HS0 : Hid (St wa w5 P n 0) := by rw [← hw5, ← hP]; exact HST.out
    have kP : w5.heap[P]? = some (.cells #[.pointer (some ⟨wa.heap.size, 0, none⟩), .pointer (some ⟨Q1, 0, none⟩), .pointer (some ⟨w1.heap.size, 0, none⟩), .pointer (some ⟨R1, 0, none⟩), .slice none 0 0, .slice none 0 0, .slice none 0 0, .slice none 0 0, .int .i64 0, .int .i64 0, .slice none 0 0] 42 (0, 0)) := by rw [← hw5, ← hP]; exact heap_alloc_new w4 _
    have cP : w5.cell? ⟨P, 1, none⟩ = some (.pointer (some ⟨Q1, 0, none⟩)) := by rw [cell_of_row _ P 1 _ 42 (0, 0) kP]; rfl
    clear HST h4 H3 HD2 HB2 HC1 HB1 HC2 kP
    go_wp2_with fail
    clear cP
    go_loopw [10] (fun u W => ∃ k : Nat, u = .int .i64 (k : Int) ∧ k ≤ m ∧ k ≤ 60 ∧ Hid (St wa W P n k)) (fun u _ => 60 - (intOf u).toNat)
    case atStart => exact ⟨0, rfl, by omega, by omega, HS0⟩
    case round =>
      obtain ⟨k, rfl, hk, hk60, HSk⟩ := hrel
      clear HS0
      by_cases hgo : k < m ∧ k < 60
      · obtain ⟨h1, h2⟩ := hgo
        have hbw : Below w.heap.size w wr := below_then HBA.out HSk.out.below
        obtain ⟨b, o, e, hcs⟩ := HSC.out.cells (by omega)
        subst e
        have hrg : wr.rangeAt b (o + k * 6) (f k).val := fun i u hu => by
          have := hcs k h1 i u hu
          exact (hbw.cell (p := ⟨b, o + k * 6 + i, none⟩) (World.block_lt_of_cell? w _ this)).trans this
        have HL : Hid ((Instr.loadAt 48 (.pointer (some ⟨b, o + k * 6, none⟩))).run Tryd.prog wr = .ok (.agg #[.int .i64 (f k).kd, .int .i64 (f k).wh, .int .i64 (f k).bk, .int .u64 (f k).ps, .slice (f k).pi (f k).mi (f k).ci, .slice (f k).pl (f k).ml (f k).cl]) wr) := load_op hrg
        have hin := HSC.out.ops k h1
        have HIN : Hid ((0 ≤ (f k).ps ∧ (f k).ps < 18446744073709551616) ∧ MIn wa (f k).pi (f k).mi (f k).l ∧ (f k).mi * 40 ≤ 140737488351232 ∧ EIn wa (f k).pl (f k).ml (f k).E ∧ (f k).ml * 48 ≤ 140737488351232) := ⟨hin.ps, hin.im.later HBA.out, hin.imb, hin.en.later HBA.out, hin.enb⟩
        have i1 : (k : Int) < (m : Int) := by omega
        have i2 : (k : Int) < 60 := by omega
        clear hcs hrg hin hbw
        generalize f k = op at *
        go_wp2_with ((with_reducible refine at_ops ?_); (refine wpList_load_is (by rfl) 48 rfl rfl HL.out ?_); simp only [Act.put, List.setIfInBounds_toArray, List.set_cons_zero, List.set_cons_succ])
        refine (plays_any HSk.out hTa (by omega) op.kd op.wh op.bk HIN.out.1 HIN.out.2.1 HIN.out.2.2.1 HIN.out.2.2.2.1 HIN.out.2.2.2.2).mono ?_
        rintro e w6 ⟨rfl, h6⟩
        have HS6 : Hid (St wa w6 P n (k + 1)) := h6
        clear h6 HSk HL HIN
        go_wp2_with fail
        go_roundw
        case rel => exact ⟨k + 1, by congr 1, by omega, by omega, HS6⟩
        case measure => simp [intOf]; omega
      · have HSK : Hid (St wa wr P n 60) := HSk.out.mono hk60
        clear HSk
        by_cases i1 : (k : Int) < (m : Int)
        · have i2 : ¬ (k : Int) < 60 := by omega
          clear hgo
          go_wp2_with fail
          refine (asks_any HSK.out hTa (by omega : 0 < 2) (by omega) 99).mono ?_
          rintro e w7 ⟨rfl, h7⟩
          have HS7 : Hid (St wa w7 P n 61) := h7
          clear h7 HSK
          go_wp2_with fail
          refine (asks_any HS7.out hTa (by omega : 1 < 2) (by omega) 99).mono ?_
          rintro e w8 ⟨rfl, h8⟩
          have HS8 : Hid (St wa w8 P n 62) := h8
          clear h8 HS7
          go_wp2_with fail
          refine (apart_any HS8.out (by omega)).mono ?_
          rintro e w9 ⟨rfl, b9⟩
          have HB9 : Hid (Below wa.heap.size wa w9) := b9
          clear b9 HS8
          go_wp2
          go_ret
          exact ⟨rfl, below_then HBA.out HB9.out⟩
        · clear hgo
          go_wp2_with fail
          refine (asks_any HSK.out hTa (by omega : 0 < 2) (by omega) 99).mono ?_
          rintro e w7 ⟨rfl, h7⟩
          have HS7 : Hid (St wa w7 P n 61) := h7
          clear h7 HSK
          go_wp2_with fail
          refine (asks_any HS7.out hTa (by omega : 1 < 2) (by omega) 99).mono ?_
          rintro e w8 ⟨rfl, h8⟩
          have HS8 : Hid (St wa w8 P n 62) := h8
          clear h8 HS7
          go_wp2_with fail
          refine (apart_any HS8.out (by omega)).mono ?_
          rintro e w9 ⟨rfl, b9⟩
          have HB9 : Hid (Below wa.heap.size wa w9) := b9
          clear b9 HS8
          go_wp2
          go_ret
          exact ⟨rfl, below_then HBA.out HB9.out⟩
  · have hno : n < 1 ∨ 64 < n := by omega
    go_wp2_with fail
    refine (new_no hno wa).mono ?_
    rintro e w1 ⟨rfl, rfl⟩
    go_wp2_with fail
    refine (rnew_no hno w1).mono ?_
    rintro e w2 ⟨rfl, rfl⟩
    go_wp2
    go_ret
    exact ⟨rfl, HBA.out⟩
end
end W
end Go.Proofs.YthcpnfelnonhnaaDoor
