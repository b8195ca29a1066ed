/-
  The statements' own helpers: sameWrites.
-/
import Derived.Test.YtlidjenkicgldaaRe
namespace Go.Proofs.Ytlidjenkicgldaa
open Go.RowKit

/-- write number k of a list that was told -/
theorem Told.at {w : World} {B g : Nat} {ws : List Wr} {vs : List Value} (h : Told w B g ws vs) {n : Nat} (hf : Fit n ws) (k : Nat) (hk : k < ws.length) :
    ∃ gb cb, w.cell? ⟨g, k * 2, none⟩ = some (.int .i64 (ws[k].s : Int)) ∧ w.cell? ⟨g, k * 2 + 1, none⟩ = some (.slice (some ⟨gb, 0, none⟩) 64 cb) ∧ BIn w (some ⟨gb, 0, none⟩) 64 ws[k].b := by
  have hkv : k < vs.length := by rw [h.len]; exact hk
  have hd := h.each k hk hkv
  obtain ⟨pb, cb, e, hb, _⟩ := own_in hd (hf.at k hk).2.2
  obtain ⟨gb, ob, rfl, _⟩ := hb.cells (by omega)
  have h00 : ob = 0 := by
    obtain ⟨_, _, e2, _, h3⟩ := own_slice hd
    rw [e] at e2
    simp only [Value.slice.injEq] at e2
    obtain ⟨g3, h4⟩ := h3 ⟨gb, ob, none⟩ e2.1.symm
    simp only [Addr.mk.injEq] at h4
    exact h4.2.1
  subst h00
  exact ⟨gb, cb, h.sect k hk, by rw [h.data k hkv, e], hb⟩

set_option maxRecDepth 10000 in
set_option maxHeartbeats 4000000 in
theorem same_any {w : World} {B ga : Nat} {ws : List Wr} {vs0 : List Value} (ht : Told w B ga ws vs0) {S : Nat → Prop} {p n : Nat} {d : List Int} {g L cap : Nat} {v : Value} {vs : List Value} (hr : RD w S p n d ws g L cap v vs) (hk : ws.length ≤ 1000) :
    Calls Try.prog 27 #[.slice (some ⟨ga, 0, none⟩) ws.length ws.length, v] w fun e w' => e = .returned (.bool true) ∧ Below w.heap.size w w' := by
  have HT : Hid (Told w B ga ws vs0) := ht
  have HR : Hid (RD w S p n d ws g L cap v vs) := hr
  obtain ⟨pv, cv, rfl, _⟩ := own_slice hr.wr
  clear ht hr
  go_enter Try.func27, Try.ntmps27
  go_wp2
  go_loopw [13] (fun i wr => ∃ k : Nat, k ≤ ws.length ∧ i = .int .i64 k ∧ Hid (Below w.heap.size w wr)) (fun i _ => ws.length - (intOf i).toNat)
  case atStart => exact ⟨0, by omega, rfl, Below.refl _ _⟩
  case round =>
    obtain ⟨k, hkl, rfl, HB⟩ := hrel
    by_cases hlt : k < ws.length
    · obtain ⟨gv, cv', gb, cb, hv, t1, t2, t3, _⟩ := (HR.out.later HB.out).at k hlt
      simp only [Value.slice.injEq, true_and] at hv
      obtain ⟨rfl, rfl⟩ := hv
      obtain ⟨gc, cc, q1, q2, q3⟩ := (HT.out.later HB.out).at HR.out.fit k hlt
      generalize ws[k] = X at *
      have z1 := t3.drew.str cb
      have z2 := q3.drew.str cc
      go_wp2
      have i1 : (k : Int) < (ws.length : Int) := by omega
      have i0 : (0 : Int) ≤ (k : Int) := by omega
      go_region_held3 (fun w' => w'.cell? ⟨gv, k * 2, none⟩ = some (.int .i64 (X.s : Int)) ∧ w'.cell? ⟨gv, k * 2 + 1, none⟩ = some (.slice (some ⟨gb, 0, none⟩) 64 cb) ∧ w'.cell? ⟨ga, k * 2, none⟩ = some (.int .i64 (X.s : Int)) ∧ w'.cell? ⟨ga, k * 2 + 1, none⟩ = some (.slice (some ⟨gc, 0, none⟩) 64 cc) ∧ Sem.run Try.prog (convert 23 9 (Value.slice (some ⟨gb, 0, none⟩) 64 cb)) w' = Result.ok (Value.string (strOfNums X.b)) w' ∧ Sem.run Try.prog (convert 23 9 (Value.slice (some ⟨gc, 0, none⟩) 64 cc)) w' = Result.ok (Value.string (strOfNums X.b)) w') (exact ⟨t1, t2, q1, q2, z1, z2⟩) (fail)
      clear t1 t2 q1 q2 z1 z2 t3 q3
      go_wp2
      go_roundw
      case rel => exact ⟨k + 1, by omega, by go_num, HB.out.drew⟩
      case measure => simp [intOf]; omega
    · obtain rfl : k = ws.length := by omega
      go_wp2
      go_ret
      exact ⟨rfl, HB.out⟩
end Go.Proofs.Ytlidjenkicgldaa
