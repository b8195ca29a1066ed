/-
  Layer 6: the document's Check, put, Encode.
-/
import Derived.Test.YtndildimnanlpaaDoorLc
namespace Go.Proofs.YtndildimnanlpaaDoor
open Go.RowKit

/-- the goal is a list of operations: a law is tried there alone -/
theorem at_seq {P : Program} {ops : Array Oper} {rest : List Oper} {o : Oper} {a : Act} {w : World} {Q : Exit → Act → World → Prop} (h : wpList P ops Q (o :: rest) a w) : wpList P ops Q (o :: rest) a w := h

theorem chk_both (r : Rec) : chk r = if (decide (r.pos ≤ 4611686018427387904) && (imageB r || commitB r)) = true then 0 else 60 := rfl
def commitR (r : Rec) : Bool := r.kind == 2 && (r.block == 0 && (decide (r.val = zs 32) && (decide (0 ≤ r.images) && decide (r.images ≤ 16))))
theorem commitR_eq (r : Rec) : commitR r = commitB r := by
  unfold commitR commitB
  cases (r.kind == 2) <;> cases (r.block == 0) <;> cases (decide (r.val = zs 32)) <;> cases (decide (0 ≤ r.images)) <;> cases (decide (r.images ≤ 16)) <;> rfl

set_option maxHeartbeats 2000000 in
theorem refCheck_any (r : Rec) (hv : r.val.length = 32) (w : World) :
    Calls Tryd.prog 15 #[.agg (rcells r).toArray] w fun e w' => e = .returned (.int .i64 (chk r)) ∧ Below w.heap.size w w' := by
  have hA := RAt.new 37 w r
  have c0 := hA.c0
  have c1 := hA.c1
  have c2 := hA.c2
  have c4 := hA.c35 hv
  have L3 : Hid (_) := hA.load24 hv
  have B3 : Hid (_) := build24 (w.alloc (.cells (rcells r).toArray 37))
  have Q3 : Hid (_) := eql24 (w.alloc (.cells (rcells r).toArray 37)) r.val (zs 32) hv (zs_len 32)
  have HB : Hid (Below w.heap.size w (w.alloc (.cells (rcells r).toArray 37))) := below_alloc w _
  have HK : Hid (chk r = if (decide (r.pos ≤ 4611686018427387904) && (imageB r || commitR r)) = true then 0 else 60) := by show _ = _; rw [commitR_eq]; rfl
  clear hA hv
  go_enter Tryd.func15, Tryd.ntmps15
  go_wp2_with ((with_reducible refine at_seq ?_); (first | (refine wpList_load_is (by rfl) 24 rfl rfl L3.out ?_) | (refine wpList_build_is (vs := []) (by rfl) 24 rfl (by rfl) B3.out ?_) | (refine wpList_eql_is (by rfl) 24 rfl rfl rfl eqg24 Q3.out ?_)); simp only [Act.put, List.setIfInBounds_toArray, List.set_cons_zero, List.set_cons_succ])
  all_goals go_ret
  all_goals (refine ⟨?_, HB.out⟩)
  all_goals (rw [HK.out]; clear c0 c1 c2 c4 L3 B3 Q3 HB HK; unfold imageB commitR; simp_all <;> (intros; omega))
end Go.Proofs.YtndildimnanlpaaDoor
