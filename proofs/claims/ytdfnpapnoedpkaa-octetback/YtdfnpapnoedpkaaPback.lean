/-
  The statement OctetBack, proved.
-/
import Derived.Test.YtdfnpapnoedpkaaPk
import Derived.Test.YtdfnpapnoedpkaaCk
import Derived.Test.YtdfnpapnoedpkaaCl
namespace Go.Proofs.Ytdfnpapnoedpkaa
open Go.ChangeShapes Go.WideShapes Go.ChangeAt Go.RowKit

theorem octetBack_any (n m s : Int) (p : Option Addr) (l c : Nat) (xs : List Int) (w : World) (hn0 : 0 ≤ n) (hn1 : n ≤ 18446744073709551615) (hm0 : 0 ≤ m) (hm1 : m ≤ 18446744073709551615)
    (hx : BIn w p l xs) (hlc : l ≤ c) (hbig : l ≤ 140737488351232) :
    Calls Try.prog 4 #[.int .u64 n, .int .u64 m, .int .i64 s, .slice p l c] w fun e w' => e = .returned (.bool true) ∧ Below w.heap.size w w' := by
  obtain ⟨t, ht⟩ : ∃ t, s.tmod 8 = t := ⟨_, rfl⟩
  have ht0 : -8 < t := by have := Int.lt_tmod_of_pos s (b := 8) (by omega); omega
  have ht1 : t < 8 := by have := Int.tmod_lt_of_pos s (b := 8) (by omega); omega
  have hj : (t + 8) % 8 = 0 ∨ (t + 8) % 8 = 1 ∨ (t + 8) % 8 = 2 ∨ (t + 8) % 8 = 3 ∨ (t + 8) % 8 = 4 ∨ (t + 8) % 8 = 5 ∨ (t + 8) % 8 = 6 ∨ (t + 8) % 8 = 7 := by omega
  rcases hj with hj | hj | hj | hj | hj | hj | hj | hj
  · exact back_1 n m s p l c xs w hn0 hn1 hm0 hm1 hx hlc hbig t ht ht0 ht1 hj
  · exact back_2 n m s p l c xs w hn0 hn1 hm0 hm1 hx hlc hbig t ht ht0 ht1 hj
  · exact back_3 n m s p l c xs w hn0 hn1 hm0 hm1 hx hlc hbig t ht ht0 ht1 hj
  · exact back_4 n m s p l c xs w hn0 hn1 hm0 hm1 hx hlc hbig t ht ht0 ht1 hj
  · exact back_5 n m s p l c xs w hn0 hn1 hm0 hm1 hx hlc hbig t ht ht0 ht1 hj
  · exact back_6 n m s p l c xs w hn0 hn1 hm0 hm1 hx hlc hbig t ht ht0 ht1 hj
  · exact back_7 n m s p l c xs w hn0 hn1 hm0 hm1 hx hlc hbig t ht ht0 ht1 hj
  · exact back_8 n m s p l c xs w hn0 hn1 hm0 hm1 hx hlc hbig t ht ht0 ht1 hj

set_option maxRecDepth 100000 in
theorem octetBack_lifted (os : Os) (started : os.Started) (H : Type) (enc : TypeId × Value → H) :
    ReturnsInHanded {} Try.checked os 4 .any (Rows.octetBackSpec.pre6 enc Try.prog Try.f4 Rows.octetBackRow.domain false) (Rows.octetBackSpec.post enc Try.prog Try.f4 false true false false) := by
  refine returnsInHanded_of_change_sized (C := Try.checked) ownK started (by kernel_rfl) Try.func4
    (ChangeSpec.witness6 (enc := enc) (C := Try.checked) false ⟨#[], #[.int .u64 0, .int .u64 0, .int .i64 0, .slice none 0 0], []⟩ 8 (by kernel_rfl) (by kernel_rfl) (by kernel_rfl) (by kernel_rfl)) ?_
  intro W base args ds gs before hval0 hW _ hsz0 _
  have hsz : (DataW.weightsEach Try.prog (Try.f4.params.toList ++ Rows.octetBackSpec.plain.varTypes Try.prog) (ds ++ gs)).all (· ≤ reachBytes) = true := hsz0
  clear hsz0
  have hval : ∀ (j : Nat) t v, Try.f4.params[j]? = some t → args[j]? = some v → Value.okWide Try.prog W .any base t v := hval0
  have hW' := hW
  obtain ⟨p, q, hA0, hV, rfl, hfz, hnd⟩ := hW
  have hA : DataW.TrodAll enc Try.prog W 0 (fun _ => true) true Try.f4.params.toList args.toList ds p := hA0
  rw [Try.params4] at hA hval hsz
  obtain ⟨v0, vs0, d0, ds0, p0, q0, hargs, rfl, rfl, h0, r0⟩ := trodAll_cons hA
  obtain ⟨v1, vs1, d1, ds1, p1, q1, rfl, rfl, rfl, h1, r1⟩ := trodAll_cons r0
  obtain ⟨v2, vs2, d2, ds2, p2, q2, rfl, rfl, rfl, h2, r2⟩ := trodAll_cons r1
  obtain ⟨v3, vs3, d3, ds3, p3, q3, rfl, rfl, rfl, h3, r3⟩ := trodAll_cons r2
  obtain ⟨rfl, rfl, rfl⟩ := trodAll_nil r3
  obtain rfl : args = #[v0, v1, v2, v3] := by cases args; simp_all
  obtain ⟨rfl, rfl⟩ := trodVars_none hV
  obtain ⟨a0, rfl, rfl, rfl, w0⟩ := open_int Try.underlying27 (hval 0 27 v0 rfl rfl) h0
  obtain ⟨a1, rfl, rfl, rfl, w1⟩ := open_int Try.underlying27 (hval 1 27 v1 rfl rfl) h1
  obtain ⟨a2, rfl, rfl, rfl, w2⟩ := open_int Try.underlying3 (hval 2 3 v2 rfl rfl) h2
  obtain ⟨a3, len3, cap3, rfl⟩ := okWide_slice Try.underlying23 (hval 3 23 v3 rfl rfl)
  have k3 := h3
  have lt3 : ∀ x ∈ p3, x.block < W.heap.size := by obtain ⟨m, hm⟩ := k3; exact DataW.trod_lt m _ _ _ hm
  obtain ⟨xs, hx, hlc, _, hd⟩ := opened h3
  have hreach : cap3 ≤ 140737488351232 := reach hsz (j := 3) rfl rfl hd
  have b0 := bounds_u64 w0
  have b1 := bounds_u64 w1
  clear hA0 hval0
  refine (octetBack_any a0 a1 a2 a3 len3 cap3 xs W b0.1 b0.2 b1.1 b1.2 hx hlc (by omega)).mono fun e W' ⟨he, bel⟩ => ?_
  subst he
  exact ⟨_, rfl, _, _, _, [], _, [], hW', trodAll_mk1 (shut_bool Try.underlying4 _), (trodAll_cons_mk (shut_int Try.underlying27 w0) (trodAll_cons_mk (shut_int Try.underlying27 w1) (trodAll_cons_mk (shut_int Try.underlying3 w2) (trodAll_cons_mk (Below.trod laidK (by kernel_rfl) (of_decide_eq_true (by kernel_rfl)) k3 bel lt3) trodAll_mk0)))), rfl, bel.frame _, fun h => by cases h⟩

theorem octetBack_holds : Rows.OctetBackSaid :=
  OpenClaim.holds_of_wide 4 Try.f4 rfl rfl rfl rfl rfl rfl rfl ⟨rfl, rfl, rfl, rfl, rfl⟩ rfl rfl rfl rfl rfl (by kernel_rfl) Try.func4 (by kernel_rfl)
    (of_decide_eq_true (by kernel_rfl)) (by unfold Func.isWrapper; first | (rw [if_pos (by decide +kernel)]; kernel_rfl) | (rw [if_neg (by decide +kernel)]; exact ⟨rfl, rfl⟩))
    (fun os started H enc _ => octetBack_lifted os started H enc)
#print axioms octetBack_holds
end Go.Proofs.Ytdfnpapnoedpkaa
