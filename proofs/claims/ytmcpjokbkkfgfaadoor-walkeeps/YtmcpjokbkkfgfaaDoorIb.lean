/-
  Layer 9: stands.
-/
import Derived.Test.YtmcpjokbkkfgfaaDoorIa
namespace Go.Proofs.YtmcpjokbkkfgfaaDoor
open Go.RowKit


theorem yields_neq_is {P : Program} {ops : Array Oper} {S : World → Prop} {o : Oper} {a : Act} (hw : Region.wanted o (yielded ops a.tmps) = true) (ty : TypeId) {x y : Operand} {t2 : TypeId} (ho : o.op = .binOp .neq ty x y t2) {xs ys : Array Value} {v : Value} (hx : a.eval x = .agg xs) (hy : a.eval y = .agg ys) (hg : P.eqGuardType P.depth ty = false) (hrun : ∀ w, (binOp .neq ty (.agg xs) (.agg ys)).run P w = .ok v w) : YieldsIf P ops S o v a :=
  .inl ⟨hw, fun w _ => by unfold execOp; simp only [ho, hx, hy, Sem.run_bind, run_eqGuard_agg w .neq ty x y xs ys hg, hrun w, Result.andThen_ok, Sem.run_pure]⟩
theorem RC_at {xs : List R.Rec} (h : ∀ r ∈ xs, r.val.length = 32) {i : Nat} {r : R.Rec} (hr : xs[i]? = some r) (j : Nat) (v : Value) (hv : (R.rcells r)[j]? = some v) : (RC xs)[i * 36 + j]? = some v := by
  obtain ⟨hi, rfl⟩ := List.getElem?_eq_some_iff.1 hr
  have hl : ∀ l ∈ xs.map R.rcells, l.length = 36 := fun l hl => by
    obtain ⟨x, hx, rfl⟩ := List.mem_map.1 hl
    exact R.rcells_len x (h x hx)
  have hj : j < 36 := by
    have := (List.getElem?_eq_some_iff.1 hv).1
    rwa [R.rcells_len _ (h _ (List.getElem_mem hi))] at this
  have := flat_at (xs.map R.rcells) hl i (by simpa using hi) j hj
  rw [show i * 36 + j = 36 * i + j by omega]
  unfold RC
  rw [this]
  simpa using hv
theorem RC_len {xs : List R.Rec} (h : ∀ r ∈ xs, r.val.length = 32) : (RC xs).length = xs.length * 36 := by
  unfold RC
  rw [flat_length _ (fun l hl => by
    obtain ⟨x, hx, rfl⟩ := List.mem_map.1 hl
    exact R.rcells_len x (h x hx))]
  simp

set_option maxHeartbeats 4000000 in
set_option maxRecDepth 100000 in
theorem stands_any {w : World} {B L p : Nat} {d : List Int} {ws : List Wr} {g : Lg} (h : LB w B L p d ws g) (ht : Tab w) {fr : Int} {all : List R.Rec} (hh : Holds g ws d fr all) (hf0 : 0 ≤ fr) (hal : ∀ r ∈ all, r.val.length = 32) (hln : all.length ≤ 100000) {base : Nat} {v : Value} (hv : w.ownsRow base 41 36 v all.length (RC all)) :
    Calls Tryd.prog 24 #[.pointer (some ⟨L, 0, none⟩), .int .u64 fr, v] w fun e w' => e = .returned (.bool true) ∧ Below w.heap.size w w' := by
  have HG : Hid (LB w B L p d ws g) := h
  have HT : Hid (Tab w) := ht
  have HH : Hid (Holds g ws d fr all) := hh
  have HAL : Hid (∀ r ∈ all, r.val.length = 32) := hal
  have HV : Hid (w.ownsRow base 41 36 v all.length (RC all)) := hv
  have o1 := h.ok.t0; have o2 := h.ok.tm; have o3 := h.ok.mf; have o4 := h.ok.fM; have o5 := h.ok.us; have o6 := h.ok.cf.2.1.2
  have e1 := hh.len
  have e2 := hh.le
  obtain ⟨q, cap, rfl, -, -⟩ := own_slice hv
  clear h ht hh hal hv
  go_enter Tryd.func24, Tryd.ntmps24
  go_wp2_with fail
  refine (ltail_at HG.out.log).mono ?_
  rintro e w1 ⟨rfl, rfl⟩
  go_wp2
  go_loopw [7, 8] (fun n x wr => ∃ k : Nat, (k : Int) ≤ g.fin - g.tail ∧ n = .int .i64 k ∧ x = .int .u64 (g.tail + k) ∧ Hid (Below w.heap.size w wr)) (fun n _ _ => 64 - (intOf n).toNat)
  case atStart => exact ⟨0, by omega, rfl, by simp, Below.refl _ _⟩
  case round =>
    obtain ⟨k, hk, rfl, rfl, HB⟩ := hrel
    go_wp2_with fail
    refine (lend_at (LAt.later HG.out.log HB.out)).mono ?_
    rintro e w1 ⟨rfl, rfl⟩
    by_cases hlt : g.tail + (k : Int) < g.fin
    · obtain ⟨i, hi⟩ : ∃ i : Nat, (i : Int) = g.tail + (k : Int) - fr := ⟨(g.tail + (k : Int) - fr).toNat, by omega⟩
      have hil : i < all.length := by omega
      obtain ⟨r, hr⟩ : ∃ r, all[i]? = some r := ⟨all[i], List.getElem?_eq_getElem hil⟩
      have hrd : rdS g (newest ws d) (g.tail + (k : Int)) = (r, 0) := HH.out.read (by omega) (by rw [← hi]; simpa using hr)
      have HL : Hid (r.val.length = 32) := HAL.out r (List.mem_of_getElem? hr)
      have HR : Hid (all[i]? = some r) := hr
      clear hr
      go_wp2_with fail
      refine (wread_at (LD.later HG.out HB.out) (HT.out.later HB.out) (g.tail + (k : Int)) (by omega)).mono ?_
      rintro e w2 ⟨rfl, b2⟩
      rw [hrd]
      clear hrd
      have A2 : Hid (_) := R.alloc31 w2
      have T2 : Hid (_) := R.store_new R.size31 w2 r HL.out
      obtain ⟨w3, hw3⟩ : ∃ x, x = w2.alloc (.cells (R.rcells r).toArray 41) := ⟨_, rfl⟩
      rw [← hw3] at T2
      have b3 : Below w2.heap.size w2 w3 := by rw [hw3]; exact below_alloc w2 _
      have R4 : Hid (R.RAt 41 w3 w2.heap.size r) := by rw [hw3]; exact R.RAt.new 41 w2 r
      have B3 : Hid (Below w.heap.size w w3) := below_then HB.out (below_then b2 b3)
      have HV3 : Hid (w3.ownsRow base 41 36 (.slice q all.length cap) all.length (RC all)) := own_later HV.out B3.out
      clear hw3 b2 b3
      obtain ⟨gb, rfl⟩ : ∃ gb, q = some ⟨gb, 0, none⟩ := by
        rcases HV3.out.2 with ⟨e, _⟩ | ⟨gb, cap', cur, e, _⟩
        · have := (Value.slice.inj e).2.1; omega
        · exact ⟨gb, (Value.slice.inj e).1⟩
      have RG : Hid (w3.rangeAt gb ((g.tail + (k : Int) - fr).toNat * 36) (R.rcells r)) := by
        rw [show (g.tail + (k : Int) - fr).toNat = i by omega]
        exact own_range_part HV3.out (fun j v hv => RC_at HAL.out HR.out j v hv)
      have MG : Hid (gb < w3.heap.size) := (HV3.out.lt gb rfl).2
      have QE : Hid (∀ w, (binOp .neq 41 (.agg (R.rcells r).toArray) (.agg (R.rcells r).toArray)).run Tryd.prog w = .ok (.bool false) w) := fun w => by
        have := R.neq31 w r r HL.out HL.out
        rwa [show R.recB r r = true from R.recB_same _] at this
      have s1 : decide (g.tail + (k : Int) < fr) = false := by simp; omega
      have s2 : IntKind.u64.wrap (g.tail + (k : Int) - fr) = g.tail + (k : Int) - fr := G.wrap_u (by omega) (by omega)
      have s3 : IntKind.u64.wrap ((all.length : Nat) : Int) = ((all.length : Nat) : Int) := G.wrap_u (by omega) (by omega)
      have s4 : decide (((all.length : Nat) : Int) ≤ g.tail + (k : Int) - fr) = false := by simp; omega
      have s5 : g.tail + (k : Int) - fr < ((all.length : Nat) : Int) := by omega
      have s6 : fr ≤ g.tail + (k : Int) := by omega
      clear HV3
      go_wp2_with ((with_reducible refine at_ops ?_); (first | (refine wpList_alloc_is (by rfl) 41 rfl A2.out ?_) | (refine wpList_store_is (by rfl) 41 rfl rfl rfl T2.out ?_)); simp only [Act.put, List.setIfInBounds_toArray, List.set_cons_zero, List.set_cons_succ])
      refine wp_region_noPanic ?_
      refine wp_region_held_drew (S := fun w' => Below w3.heap.size w3 w') (by kernel_rfl) (below_drawn 1) (fun hHeld => ?_)
      have D3 : Hid (Below w3.heap.size w3 w3.drew) := hHeld
      generalize w3.drew = wd at *
      refine wpAnyH_take (i := 0) (v := ?va1) (by simp; rfl) (by kernel_rfl) (by kernel_rfl) (by kernel_rfl) (fun _ _ _ h => h) (Or.inl ⟨by rfl, ?ya1⟩) hHeld ?ra1
      case ya1 => intro w hSw; clear hSw; go_simp; with_reducible rfl
      simp only [Act.put, List.setIfInBounds_toArray, List.set_cons_zero, List.set_cons_succ]
      refine wpAnyH_take (i := 1) (v := ?va2) (by simp; rfl) (by kernel_rfl) (by kernel_rfl) (by kernel_rfl) (fun _ _ _ h => h) (Or.inl ⟨by rfl, ?ya2⟩) hHeld ?ra2
      case ya2 => intro w hSw; clear hSw; go_simp; with_reducible rfl
      simp only [Act.put, List.setIfInBounds_toArray, List.set_cons_zero, List.set_cons_succ]
      refine wpAnyH_take (i := 2) (v := ?va3) (by simp; rfl) (by kernel_rfl) (by kernel_rfl) (by kernel_rfl) (fun _ _ _ h => h) (Or.inl ⟨by rfl, ?ya3⟩) hHeld ?ra3
      case ya3 => intro w hSw; clear hSw; go_simp; with_reducible rfl
      simp only [Act.put, List.setIfInBounds_toArray, List.set_cons_zero, List.set_cons_succ]
      refine wpAnyH_take (i := 3) (v := ?va4) (by simp; rfl) (by kernel_rfl) (by kernel_rfl) (by kernel_rfl) (fun _ _ _ h => h) (Or.inl ⟨by rfl, ?ya4⟩) hHeld ?ra4
      case ya4 => intro w hSw; clear hSw; go_simp; with_reducible rfl
      simp only [Act.put, List.setIfInBounds_toArray, List.set_cons_zero, List.set_cons_succ]
      refine wpAnyH_take (i := 4) (v := ?va5) (by simp; rfl) (by kernel_rfl) (by kernel_rfl) (by kernel_rfl) (fun _ _ _ h => h) (Or.inl ⟨by rfl, ?ya5⟩) hHeld ?ra5
      case ya5 => intro w hSw; clear hSw; go_simp; with_reducible rfl
      simp only [Act.put, List.setIfInBounds_toArray, List.set_cons_zero, List.set_cons_succ]
      refine wpAnyH_take (i := 5) (v := ?va6) (by simp; rfl) (by kernel_rfl) (by kernel_rfl) (by kernel_rfl) (fun _ _ _ h => h) (Or.inl ⟨by rfl, ?ya6⟩) hHeld ?ra6
      case ya6 => intro w hSw; clear hSw; go_simp; with_reducible rfl
      simp only [Act.put, List.setIfInBounds_toArray, List.set_cons_zero, List.set_cons_succ]
      refine wpAnyH_take (i := 6) (v := ?va7) (by simp; rfl) (by kernel_rfl) (by kernel_rfl) (by kernel_rfl) (fun _ _ _ h => h) (Or.inl ⟨by rfl, ?ya7⟩) hHeld ?ra7
      case ya7 => intro w hSw; clear hSw; go_simp; with_reducible rfl
      simp only [Act.put, List.setIfInBounds_toArray, List.set_cons_zero, List.set_cons_succ]
      refine wpAnyH_take (i := 7) (v := ?va8) (by simp; rfl) (by kernel_rfl) (by kernel_rfl) (by kernel_rfl) (fun _ _ _ h => h) (Or.inl ⟨by rfl, ?ya8⟩) hHeld ?ra8
      case ya8 => intro w hSw; clear hSw; go_simp; with_reducible rfl
      simp only [Act.put, List.setIfInBounds_toArray, List.set_cons_zero, List.set_cons_succ]
      refine wpAnyH_take (i := 8) (v := ?va9) (by simp; rfl) (by kernel_rfl) (by kernel_rfl) (by kernel_rfl) (fun _ _ _ h => h) (Or.inl ⟨by rfl, ?ya9⟩) hHeld ?ra9
      case ya9 => intro w hSw; clear hSw; go_simp; with_reducible rfl
      simp only [Act.put, List.setIfInBounds_toArray, List.set_cons_zero, List.set_cons_succ]
      refine wpAnyH_take (i := 9) (v := ?va10) (by simp; rfl) (by kernel_rfl) (by kernel_rfl) (by kernel_rfl) (fun _ _ _ h => h) (Or.inl ⟨by rfl, ?ya10⟩) hHeld ?ra10
      case ya10 => intro w hSw; clear hSw; go_simp; with_reducible rfl
      simp only [Act.put, List.setIfInBounds_toArray, List.set_cons_zero, List.set_cons_succ]
      refine wpAnyH_take (i := 10) (v := ?va11) (by simp; rfl) (by kernel_rfl) (by kernel_rfl) (by kernel_rfl) (fun _ _ _ h => h) (Or.inl ⟨by rfl, ?ya11⟩) hHeld ?ra11
      case ya11 => intro w hSw; clear hSw; go_simp; with_reducible rfl
      simp only [Act.put, List.setIfInBounds_toArray, List.set_cons_zero, List.set_cons_succ]
      refine wpAnyH_take (i := 11) (v := ?va12) (by simp; rfl) (by kernel_rfl) (by kernel_rfl) (by kernel_rfl) (fun _ _ _ h => h) (Or.inl ⟨by rfl, ?ya12⟩) hHeld ?ra12
      case ya12 => intro w hSw; clear hSw; go_simp; with_reducible rfl
      simp only [Act.put, List.setIfInBounds_toArray, List.set_cons_zero, List.set_cons_succ]
      refine wpAnyH_take (i := 12) (v := ?va13) (by simp; rfl) (by kernel_rfl) (by kernel_rfl) (by kernel_rfl) (fun _ _ _ h => h) (Or.inl ⟨by rfl, ?ya13⟩) hHeld ?ra13
      case ya13 => intro w hSw; clear hSw; go_simp; with_reducible rfl
      simp only [Act.put, List.setIfInBounds_toArray, List.set_cons_zero, List.set_cons_succ]
      refine wpAnyH_take (i := 13) (v := ?va14) (by simp; rfl) (by kernel_rfl) (by kernel_rfl) (by kernel_rfl) (fun _ _ _ h => h) (Or.inl ⟨by rfl, ?ya14⟩) hHeld ?ra14
      case ya14 => intro w hSw; clear hSw; go_simp; with_reducible rfl
      simp only [Act.put, List.setIfInBounds_toArray, List.set_cons_zero, List.set_cons_succ]
      refine wpAnyH_take (i := 14) (v := ?va15) (by simp; rfl) (by kernel_rfl) (by kernel_rfl) (by kernel_rfl) (fun _ _ _ h => h) (Or.inl ⟨by rfl, ?ya15⟩) hHeld ?ra15
      case ya15 => intro w hSw; clear hSw; go_simp; with_reducible rfl
      simp only [Act.put, List.setIfInBounds_toArray, List.set_cons_zero, List.set_cons_succ]
      refine wpAnyH_take (i := 15) (v := ?va16) (by simp; rfl) (by kernel_rfl) (by kernel_rfl) (by kernel_rfl) (fun _ _ _ h => h) (Or.inl ⟨by rfl, ?ya16⟩) hHeld ?ra16
      case ya16 => intro w hSw; clear hSw; go_simp; with_reducible rfl
      simp only [Act.put, List.setIfInBounds_toArray, List.set_cons_zero, List.set_cons_succ]
      refine wpAnyH_take (i := 16) (v := ?va17) (by simp; rfl) (by kernel_rfl) (by kernel_rfl) (by kernel_rfl) (fun _ _ _ h => h) (Or.inl ⟨by rfl, ?ya17⟩) hHeld ?ra17
      case ya17 => intro w hSw; clear hSw; go_simp; with_reducible rfl
      simp only [Act.put, List.setIfInBounds_toArray, List.set_cons_zero, List.set_cons_succ]
      refine wpAnyH_take (i := 17) (v := _) (by simp; rfl) (by kernel_rfl) (by kernel_rfl) (by kernel_rfl) (fun _ _ _ h => h) (yieldsIf_load_mid (by rfl) 41 (.tmp 9) rfl w2.heap.size 0 rfl (R.rcells r) _ (fun _ h => R.RAt.range (R.RAt.later R4.out h)) Tryd.underlying41 rfl (by rw [R.size31, R.rcells_len r HL.out])) hHeld ?_
      simp only [Act.put, List.setIfInBounds_toArray, List.set_cons_zero, List.set_cons_succ]
      refine wpAnyH_take (i := 18) (v := ?va18) (by simp; rfl) (by kernel_rfl) (by kernel_rfl) (by kernel_rfl) (fun _ _ _ h => h) (Or.inl ⟨by rfl, ?ya18⟩) hHeld ?ra18
      case ya18 => intro w hSw; clear hSw; go_simp; with_reducible rfl
      simp only [Act.put, List.setIfInBounds_toArray, List.set_cons_zero, List.set_cons_succ]
      refine wpAnyH_take (i := 19) (v := ?va19) (by simp; rfl) (by kernel_rfl) (by kernel_rfl) (by kernel_rfl) (fun _ _ _ h => h) (Or.inl ⟨by rfl, ?ya19⟩) hHeld ?ra19
      case ya19 => intro w hSw; clear hSw; go_simp; with_reducible rfl
      simp only [Act.put, List.setIfInBounds_toArray, List.set_cons_zero, List.set_cons_succ]
      refine wpAnyH_take (i := 20) (v := ?va20) (by simp; rfl) (by kernel_rfl) (by kernel_rfl) (by kernel_rfl) (fun _ _ _ h => h) (Or.inl ⟨by rfl, ?ya20⟩) hHeld ?ra20
      case ya20 => intro w hSw; clear hSw; go_simp; with_reducible rfl
      simp only [Act.put, List.setIfInBounds_toArray, List.set_cons_zero, List.set_cons_succ]
      refine wpAnyH_take (i := 21) (v := ?va21) (by simp; rfl) (by kernel_rfl) (by kernel_rfl) (by kernel_rfl) (fun _ _ _ h => h) (Or.inl ⟨by rfl, ?ya21⟩) hHeld ?ra21
      case ya21 => intro w hSw; clear hSw; go_simp; with_reducible rfl
      simp only [Act.put, List.setIfInBounds_toArray, List.set_cons_zero, List.set_cons_succ]
      refine wpAnyH_take (i := 22) (v := ?va22) (by simp; rfl) (by kernel_rfl) (by kernel_rfl) (by kernel_rfl) (fun _ _ _ h => h) (Or.inl ⟨by rfl, ?ya22⟩) hHeld ?ra22
      case ya22 => intro w hSw; clear hSw; go_simp; with_reducible rfl
      simp only [Act.put, List.setIfInBounds_toArray, List.set_cons_zero, List.set_cons_succ]
      refine wpAnyH_take (i := 23) (v := _) (by simp; rfl) (by kernel_rfl) (by kernel_rfl) (by kernel_rfl) (fun _ _ _ h => h) (yieldsIf_load_mid (by rfl) 41 (.tmp 51) rfl gb ((g.tail + (k : Int) - fr).toNat * 36) rfl (R.rcells r) _ (fun _ h => rangeAt_same RG.out (h.block gb MG.out)) Tryd.underlying41 rfl (by rw [R.size31, R.rcells_len r HL.out])) hHeld ?_
      simp only [Act.put, List.setIfInBounds_toArray, List.set_cons_zero, List.set_cons_succ]
      refine wpAnyH_take (i := 24) (v := _) (by simp; rfl) (by kernel_rfl) (by kernel_rfl) (by kernel_rfl) (fun _ _ _ h => h) (yields_neq_is (by rfl) 41 rfl rfl rfl R.eqg31 QE.out) hHeld ?_
      simp only [Act.put, List.setIfInBounds_toArray, List.set_cons_zero, List.set_cons_succ]
      refine wpAnyH_take (i := 25) (v := ?va23) (by simp; rfl) (by kernel_rfl) (by kernel_rfl) (by kernel_rfl) (fun _ _ _ h => h) (Or.inl ⟨by rfl, ?ya23⟩) hHeld ?ra23
      case ya23 => intro w hSw; clear hSw; go_simp; with_reducible rfl
      simp only [Act.put, List.setIfInBounds_toArray, List.set_cons_zero, List.set_cons_succ]
      clear hHeld
      refine wpAnyH_done (by kernel_rfl) (NoPanic.normal ?_) _
      have B4 : Hid (Below w.heap.size w wd) := below_then B3.out D3.out
      clear B3 D3 R4 RG MG QE A2 T2
      have z1 : IntKind.u64.wrap (g.tail + (k : Int) + 1) = g.tail + (k : Int) + 1 := G.wrap_u (by omega) (by omega)
      go_wp2
      go_roundw
      case rel => exact ⟨k + 1, by omega, by go_num, by congr 1; omega, B4⟩
      case measure => simp [intOf]; omega
    · obtain hke : (k : Int) = g.fin - g.tail := by omega
      go_wp2_with fail
      refine (told_B (LD.later HG.out HB.out) (HT.out.later HB.out) 99 (by decide) (by decide)).mono ?_
      rintro e w2 ⟨v2, rfl, o2', b2⟩
      have hal : ((allS g (newest ws d)).take (99 : Int).toNat).length = k := by
        rw [HH.out.all HG.out.ok]
        simp
        omega
      obtain ⟨q2, cap2, rfl, -, -⟩ := own_slice o2'
      rw [hal]
      have B2 : Hid (Below w.heap.size w w2) := below_then HB.out b2
      clear o2' b2 hal
      go_wp2_with fail
      refine (lused_at (LAt.later HG.out.log B2.out) HG.out.ok).mono ?_
      rintro e wz ⟨rfl, rfl⟩
      rw [← hke]
      go_wp2_with fail
      refine (lend_at (LAt.later HG.out.log B2.out)).mono ?_
      rintro e wz ⟨rfl, rfl⟩
      go_wp2_with fail
      refine (wread_at (LD.later HG.out B2.out) (HT.out.later B2.out) g.fin (by omega)).mono ?_
      rintro e w3 ⟨rfl, b3⟩
      rw [rdS_out _ (show Outr g g.fin from .inr (Int.le_refl _))]
      have A3 : Hid (_) := R.alloc31 w3
      have T3 : Hid (_) := R.store_new R.size31 w3 R.rec0 R.rec0_len
      have B3 : Hid (Below w.heap.size w (w3.alloc (.cells (R.rcells R.rec0).toArray 41))) := below_then (below_then B2.out b3) (below_alloc w3 _)
      clear b3
      go_wp2_with ((with_reducible refine at_ops ?_); (first | (refine wpList_alloc_is (by rfl) 41 rfl A3.out ?_) | (refine wpList_store_is (by rfl) 41 rfl rfl rfl T3.out ?_)); simp only [Act.put, List.setIfInBounds_toArray, List.set_cons_zero, List.set_cons_succ])
      go_ret
      exact ⟨rfl, B3.out⟩
end Go.Proofs.YtmcpjokbkkfgfaaDoor
