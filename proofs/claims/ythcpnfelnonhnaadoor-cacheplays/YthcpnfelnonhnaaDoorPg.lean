/-
  Layer 17: Put.
-/
import Derived.Test.YthcpnfelnonhnaaDoorPf
namespace Go.Proofs.YthcpnfelnonhnaaDoor
open Go.RowKit

/-- what a Put makes of the entries, and of the next position -/
def putL (n : Int) (L : List En) (nx : Int) (l : List Im) (p : Int) : List En := if putE n nx l p = 0 then lays L l p else L
def putX (n nx : Int) (l : List Im) (p : Int) : Int := if putE n nx l p = 0 then p + 1 else nx
theorem putE_block {n nx : Int} {l : List Im} {p : Int} (h : l.any (outI n) = true) : putE n nx l p = 51 := if_pos h
theorem putE_form {n nx : Int} {l : List Im} {p : Int} (h : l.any (outI n) = false) (h2 : upI l = false) : putE n nx l p = 53 := by
  unfold putE; rw [if_neg (by rw [h]; decide), if_pos h2]
theorem putE_ring {n nx : Int} {l : List Im} {p : Int} (h : l.any (outI n) = false) (h2 : upI l = true) (h3 : p < nx ∨ 4611686018427387904 < p) : putE n nx l p = 30 := by
  unfold putE; rw [if_neg (by rw [h]; decide), if_neg (by rw [h2]; decide), if_pos h3]
theorem putE_ok {n nx : Int} {l : List Im} {p : Int} (h : l.any (outI n) = false) (h2 : upI l = true) (h3 : ¬ (p < nx ∨ 4611686018427387904 < p)) : putE n nx l p = 0 := by
  unfold putE; rw [if_neg (by rw [h]; decide), if_neg (by rw [h2]; decide), if_neg h3]
theorem Okc.put {n nx p : Int} {L : List En} {l : List Im} (h : Okc n L nx) (hw : ImsWf l) (hp : 0 ≤ p ∧ p < 18446744073709551616) : Okc n (putL n L nx l p) (putX n nx l p) := by
  unfold putL putX
  by_cases e : putE n nx l p = 0
  · rw [if_pos e, if_pos e]
    have h1 : l.any (outI n) = false := by
      cases k : l.any (outI n) with
      | false => rfl
      | true => rw [putE_block k] at e; cases e
    have h2 : upI l = true := by
      cases k : upI l with
      | true => rfl
      | false => rw [putE_form h1 k] at e; cases e
    have h3 : ¬ (p < nx ∨ 4611686018427387904 < p) := fun k => by rw [putE_ring h1 h2 k] at e; cases e
    exact (h.lays hp l hw (fun i hi => by simpa using List.any_eq_false.1 h1 i hi)).next hp.1 (by omega)
  · rw [if_neg e, if_neg e]; exact h
section
variable {w w' : World} {Q : Nat} {n nx : Int} {ve : Value} {L : List En}
set_option maxHeartbeats 2000000 in
set_option maxRecDepth 100000 in
theorem put_at (h : CAt w Q n ve L nx) (hk : Okc n L nx) {p : Option Addr} {m c : Nat} {l : List Im} (hM : MIn w p m l) (hm : m ≤ 140737488355328) (hsep : ∀ a, p = some a → 0 < m → ¬ (a.block = Q ∨ ve.ownBlock = some a.block)) {ps : Int} (hp : 0 ≤ ps ∧ ps < 18446744073709551616) :
    Calls Tryd.prog 12 #[.pointer (some ⟨Q, 0, none⟩), .slice p m c, .int .u64 ps] w fun e w' => e = .returned (.int .i64 (putE n nx l ps)) ∧ ∃ ve', Wrt w w' Q n ve ve' (putL n L nx l ps) (putX n nx l ps) := by
  have hn1 := hk.n1; have hn2 := hk.n64
  have HA : Hid (CAt w Q n ve L nx) := h
  have HK : Hid (Okc n L nx) := hk
  have HM : Hid (MIn w p m l) := hM
  have HSP : Hid (∀ a, p = some a → 0 < m → ¬ (a.block = Q ∨ ve.ownBlock = some a.block)) := hsep
  have HNO : Hid (∀ e, putE n nx l ps = e → e ≠ 0 → putL n L nx l ps = L ∧ putX n nx l ps = nx) := fun e h1 h2 => ⟨if_neg (by rw [h1]; exact h2), if_neg (by rw [h1]; exact h2)⟩
  have HYES : Hid (putE n nx l ps = 0 → putL n L nx l ps = lays L l ps ∧ putX n nx l ps = ps + 1) := fun h1 => ⟨if_pos h1, if_pos h1⟩
  have hp0 := hp.1; have hp1 := hp.2
  have hnx0 := hk.nx0; have hnx1 := hk.nx1
  clear h hk hM hsep hp
  go_enter Tryd.func12, Tryd.ntmps12
  go_wp2_with fail
  refine (contains_at HA.out (by constructor <;> omega) HM.out hm).mono ?_
  rintro e w1 ⟨rfl, b1⟩
  cases ho : l.any (outI n) with
  | true =>
    have HE : Hid (putE n nx l ps = 51) := putE_block ho
    have HB : Hid (Below w.heap.size w w1) := b1
    clear ho b1
    go_wp2_with fail
    go_ret
    exact ⟨by rw [HE.out]; rfl, ve, by rw [(HNO.out _ HE.out (by decide)).1, (HNO.out _ HE.out (by decide)).2]; exact Wrt.below HA.out HB.out⟩
  | false =>
    have HO : Hid (l.any (outI n) = false) := ho
    have HB1 : Hid (Below w.heap.size w w1) := b1
    clear ho b1
    go_wp2_with fail
    refine (rise_at (HM.out.later HB1.out) hm).mono ?_
    rintro e w2 ⟨rfl, b2⟩
    have HB2 : Hid (Below w.heap.size w w2) := below_then HB1.out b2
    clear b2 HB1
    cases hu : upI l with
    | false =>
      have HE : Hid (putE n nx l ps = 53) := putE_form HO.out hu
      clear hu
      go_wp2_with fail
      go_ret
      exact ⟨by rw [HE.out]; rfl, ve, by rw [(HNO.out _ HE.out (by decide)).1, (HNO.out _ HE.out (by decide)).2]; exact Wrt.below HA.out HB2.out⟩
    | true =>
      have HU : Hid (upI l = true) := hu
      have c2 := (HA.out.later HB2.out).c2
      clear hu
      by_cases hr : ps < nx
      · have HE : Hid (putE n nx l ps = 30) := putE_ring HO.out HU.out (.inl hr)
        go_wp2_with fail
        go_ret
        exact ⟨by rw [HE.out]; rfl, ve, by rw [(HNO.out _ HE.out (by decide)).1, (HNO.out _ HE.out (by decide)).2]; exact Wrt.below HA.out HB2.out⟩
      · by_cases hr2 : 4611686018427387904 < ps
        · have HE : Hid (putE n nx l ps = 30) := putE_ring HO.out HU.out (.inr hr2)
          go_wp2_with fail
          go_ret
          exact ⟨by rw [HE.out]; rfl, ve, by rw [(HNO.out _ HE.out (by decide)).1, (HNO.out _ HE.out (by decide)).2]; exact Wrt.below HA.out HB2.out⟩
        · have HE : Hid (putE n nx l ps = 0) := putE_ok HO.out HU.out (fun h => h.elim hr hr2)
          have HY : Hid (putL n L nx l ps = lays L l ps ∧ putX n nx l ps = ps + 1) := HYES.out HE.out
          have HL : Hid (l.length = m) := HM.out.len
          have HOK : Hid (∀ k, Okc n (lays L (l.take k) ps) nx) := fun k => HK.out.lays ⟨hp0, hp1⟩ _ (fun x hx => HM.out.wf x (List.mem_of_mem_take hx)) (fun i hi => by simpa using List.any_eq_false.1 HO.out i (List.mem_of_mem_take hi))
          go_wp2_with fail
          go_loopw [34] (fun v W => ∃ (k : Nat) (ve' : Value), v = .int .i64 (k : Int) ∧ k ≤ m ∧ Hid (Wrt w W Q n ve ve' (lays L (l.take k) ps) nx)) (fun v _ => m - (intOf v).toNat)
          case atStart => exact ⟨0, ve, rfl, by omega, (by rw [List.take_zero]; exact Wrt.below HA.out HB2.out : Wrt w w2 Q n ve ve (lays L (l.take 0) ps) nx)⟩
          case round =>
            obtain ⟨k, ve', rfl, hk, HW⟩ := hrel
            by_cases hlt : k < m
            · obtain ⟨x, hx⟩ : ∃ x, l[k]? = some x := ⟨_, List.getElem?_eq_getElem (by rw [HL.out]; omega)⟩
              obtain ⟨b1, o1, e1, -⟩ := HM.out.cells (by omega)
              have hMr : MIn wr p m l := HM.out.far HW.out.kept HSP.out
              subst e1
              have hxw : x.Wf := hMr.wf x (List.mem_of_getElem? hx)
              have HTK : Hid (l.take (k + 1) = l.take k ++ [x]) := by
                show _ = _
                obtain ⟨hk', ex⟩ := List.getElem?_eq_some_iff.1 hx
                rw [List.take_succ_eq_append_getElem hk', ex]
              have HLd : Hid ((Instr.loadAt 55 (.pointer (some ⟨b1, o1 + k * 33, none⟩))).run Tryd.prog wr = .ok (.agg (icells x).toArray) wr) := hMr.load hx
              obtain ⟨w3, hw3⟩ : ∃ w3, w3 = wr.alloc (.cells (icells im0).toArray 55) := ⟨_, rfl⟩
              obtain ⟨w4, hw4⟩ : ∃ w4, w4 = wr.alloc (.cells (icells x).toArray 55) := ⟨_, rfl⟩
              have HAL : Hid ((Instr.alloc 55 true (.tuple #[])).run Tryd.prog wr = .ok (.pointer (some ⟨wr.heap.size, 0, none⟩)) w3) := by rw [hw3]; exact allocI wr
              have HST : Hid ((Instr.storeAt 55 (.pointer (some ⟨wr.heap.size, 0, none⟩)) (.agg (icells x).toArray)).run Tryd.prog w3 = .ok () w4) := by rw [hw3, hw4]; exact store_newI wr x hxw.len
              have b4 : Below wr.heap.size wr w4 := by rw [hw4]; exact below_alloc wr _
              have l4 : LAt 55 w4 wr.heap.size (icells x) := by rw [hw4]; exact LAt.new _ _ _
              have HW4 : Hid (Wrt w w4 Q n ve ve' (lays L (l.take k) ps) nx) := HW.out.later b4
              have z0 : w4.cell? ⟨wr.heap.size, 0, none⟩ = some (.int .i64 x.b) := LAt.cell l4 0
              have HLV : Hid ((Instr.loadAt 52 (.pointer (some ⟨wr.heap.size, 1, none⟩))).run Tryd.prog w4 = .ok (.agg (U8 x.v).toArray) w4) := LAt.loadIv l4 hxw.len
              have HBU : Hid ((Instr.build 57 #[(0, .int .i64 x.b), (1, .agg (U8 x.v).toArray), (2, .int .u64 ps)]).run Tryd.prog w4 = .ok (.agg (ecells ⟨x.b, x.v, ps⟩).toArray) w4) := buildE etC w4 x.b x.v ps hxw.len
              have HXW : Hid (En.Wf ⟨x.b, x.v, ps⟩) := ⟨hxw.b, hxw.len, hxw.byte, hp0, hp1⟩
              have i1 : (k : Int) < (m : Int) := by omega
              clear hw3 hw4 b4 l4 hxw hx hMr HW
              go_wp2_with ((with_reducible refine at_ops ?_); (first | ((first | (refine wpList_load_is (by rfl) 55 rfl rfl HLd.out ?_) | (refine wpList_load_is (by rfl) 52 rfl rfl HLV.out ?_) | (refine wpList_alloc_is (by rfl) 55 rfl HAL.out ?_) | (refine wpList_build_is (vs := [(0, .int .i64 x.b), (1, .agg (U8 x.v).toArray), (2, .int .u64 ps)]) (by rfl) 57 rfl (by rfl) HBU.out ?_)); simp only [Act.put, List.setIfInBounds_toArray, List.set_cons_zero, List.set_cons_succ]) | ((refine wpList_store_is (by rfl) 55 rfl rfl rfl HST.out ?_); simp only [Act.put])))
              refine (lay_call HW4.out.at' (HOK.out k) HXW.out).mono ?_
              rintro e w5 ⟨rfl, ve5, hW5⟩
              have HW5 : Hid (Wrt w w5 Q n ve ve5 (lays L (l.take (k + 1)) ps) nx) := by
                show Wrt _ _ _ _ _ _ _ _
                rw [HTK.out, lays_snoc]; exact HW4.out.trans hW5
              clear hW5 HW4 HLd HLV HAL HST HBU HTK z0
              go_wp2_with fail
              go_roundw
              case rel => exact ⟨k + 1, ve5, by congr 1, by omega, HW5⟩
              case measure => simp [intOf]; omega
            · have HW2 : Hid (Wrt w wr Q n ve ve' (lays L l ps) nx) := by
                have := HW.out
                rw [List.take_of_length_le (by rw [HL.out]; omega)] at this
                exact this
              have q2 := HW2.out.at'.c2
              have f2 := HW2.out.at'.free 2
              have hwp : IntKind.u64.wrap (ps + 1) = ps + 1 := by rw [IntKind.wrap_u64]; omega
              clear HW
              go_wp2
              go_ret
              refine ⟨by rw [HE.out]; rfl, ve', ?_⟩
              rw [HY.out.1, HY.out.2]
              exact ⟨HW2.out.at'.next, HW2.out.kept.trans (Kept.setCell Q 2 _) (fun x _ e => .inl e), HW2.out.new⟩
set_option maxHeartbeats 2000000 in
set_option maxRecDepth 100000 in
theorem put_nil (p : Option Addr) (m c : Nat) (ps : Int) (w : World) : Calls Tryd.prog 12 #[.pointer none, .slice p m c, .int .u64 ps] w fun e w' => e = .returned (.int .i64 1) ∧ w' = w := by
  go_enter Tryd.func12, Tryd.ntmps12
  go_wp2
  go_ret
  exact ⟨rfl, rfl⟩
end
end Go.Proofs.YthcpnfelnonhnaaDoor
