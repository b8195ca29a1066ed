/-
  RecordOneForm walked.
-/
import Derived.Test.YtndildimnanlpaaDoorFa
namespace Go.Proofs.YtndildimnanlpaaDoor
open Go.RowKit

set_option maxHeartbeats 4000000 in
set_option maxRecDepth 100000 in
theorem recordOneForm_any (p : Option Addr) (n c : Nat) (xs : List Int) (w : World) (hx : BIn w p n xs) (hc : n ≤ c) (ht : Tab w) :
    Calls Tryd.prog 4 #[.slice p n c] w fun e w' => e = .returned (.bool true) ∧ Below w.heap.size w w' := by
  have HX : Hid (BIn w p n xs) := hx
  have HT : Hid (Tab w) := ht
  have K0 : Hid (∀ w, (Instr.build 31 #[]).run Tryd.prog w = .ok (.agg (rcells rec0).toArray) w) := fun w => build31 w #[] rec0 fill_none
  have HDW : Hid ((decS xs).1.Wf) := decS_wf xs hx.byte
  have HER : Hid (_) := decS_err xs
  have HGD : Hid (_) := decS_good xs
  have HL : Hid (xs.length = n) := hx.len
  clear hx ht
  go_enter Tryd.func4, Tryd.ntmps4
  go_wp2_with fail
  refine (fixed_any w HT.out).mono ?_
  rintro e w1 ⟨rfl, b1⟩
  have B1 : Hid (Below w.heap.size w w1) := b1
  have X1 : Hid (BIn w1 p n xs) := HX.out.later b1
  clear b1 HX
  go_wp2_with fail
  refine (decode_any p n c xs w1 X1.out hc (HT.out.later B1.out)).mono ?_
  rintro e w2 ⟨rfl, b2⟩
  have B2 : Hid (Below w.heap.size w w2) := below_then B1.out b2
  have X2 : Hid (BIn w2 p n xs) := X1.out.later b2
  clear b2 X1 B1
  obtain ⟨r, e0, hd⟩ : ∃ r e0, decS xs = (r, e0) := ⟨_, _, rfl⟩
  rw [hd] at HDW HER HGD ⊢
  clear hd
  have A2 : Hid (_) := alloc31 w2
  have S2 : Hid (_) := store_new size31 w2 r HDW.out.len
  have R3 : Hid (RAt 31 (w2.alloc (.cells (rcells r).toArray 31)) w2.heap.size r) := RAt.new 31 w2 r
  have B3 : Hid (Below w.heap.size w (w2.alloc (.cells (rcells r).toArray 31))) := below_then B2.out (below_alloc w2 _)
  have X3 : Hid (BIn (w2.alloc (.cells (rcells r).toArray 31)) p n xs) := X2.out.later (below_alloc w2 _)
  have L3 : Hid (_) := R3.out.load31 HDW.out.len
  clear X2 B2
  rcases HER.out with h0 | ⟨hr, h2⟩
  · have h0' : e0 = 0 := h0
    subst h0'
    obtain ⟨hm, he, hl⟩ := HGD.out rfl
    have HM : Hid (may r = true) := hm
    have HE : Hid (encS r = xs) := he
    have HC : Hid (chk r = 0) := chk_yes r hm
    clear h0 hm he hl
    go_wp2_with (first | (refine wpList_alloc_is (by rfl) 31 rfl A2.out ?_) | (refine wpList_store_is (by rfl) 31 rfl rfl rfl S2.out ?_) | (refine wpList_load_is (by rfl) 31 rfl rfl L3.out ?_))
    refine (encode_good r HDW.out HM.out _ (HT.out.later B3.out)).mono ?_
    rintro e w4 ⟨p4, c4, rfl, m4⟩
    have q1 := m4.read.str c4
    have q2 := (X3.out.later m4.below).str c
    have B4 : Hid (Below w.heap.size w w4) := below_then B3.out m4.below
    have L4 : Hid (_) := (R3.out.later m4.below).load31 HDW.out.len
    rw [HE.out] at q1
    clear m4
    go_wp2_with (refine wpList_load_is (by rfl) 31 rfl rfl L4.out ?_)
    refine (check_any r HDW.out.len _).mono ?_
    rintro e w5 ⟨rfl, b5⟩
    rw [HC.out]
    have B5 : Hid (Below w.heap.size w w5) := below_then B4.out b5
    clear b5 q1 q2
    go_wp2_with fail
    go_ret
    exact ⟨rfl, B5.out⟩
  · have hr' : r = rec0 := hr
    subst hr'
    have Q3 : Hid (_) := eql31 (w2.alloc (.cells (rcells rec0).toArray 31)) rec0 rec0 rec0_len rec0_len
    have HQ : Hid (recB rec0 rec0 = true) := recB_same rec0
    rw [HQ.out] at Q3
    rcases h2 with ⟨he, hl⟩ | ⟨he, hl⟩
    · have he' : e0 = 2 := he
      subst he'
      have hn : (((n : Nat) : Int) != 64) = true := by have := HL.out; simp; omega
      clear he hl hr
      go_wp2_with (first | (refine wpList_alloc_is (by rfl) 31 rfl A2.out ?_) | (refine wpList_store_is (by rfl) 31 rfl rfl rfl S2.out ?_) | (refine wpList_load_is (by rfl) 31 rfl rfl L3.out ?_) | (refine wpList_build_is (vs := []) (by rfl) 31 rfl (by rfl) (K0.out _) ?_) | (refine wpList_eql_is (by rfl) 31 rfl rfl rfl eqg31 Q3.out ?_))
      go_ret
      exact ⟨by simp, B3.out⟩
    · have he' : e0 = 60 := he
      subst he'
      have hn : (((n : Nat) : Int) != 64) = false := by have := HL.out; simp; omega
      clear he hl hr
      go_wp2_with (first | (refine wpList_alloc_is (by rfl) 31 rfl A2.out ?_) | (refine wpList_store_is (by rfl) 31 rfl rfl rfl S2.out ?_) | (refine wpList_load_is (by rfl) 31 rfl rfl L3.out ?_) | (refine wpList_build_is (vs := []) (by rfl) 31 rfl (by rfl) (K0.out _) ?_) | (refine wpList_eql_is (by rfl) 31 rfl rfl rfl eqg31 Q3.out ?_))
      go_ret
      exact ⟨by simp, B3.out⟩
end Go.Proofs.YtndildimnanlpaaDoor
