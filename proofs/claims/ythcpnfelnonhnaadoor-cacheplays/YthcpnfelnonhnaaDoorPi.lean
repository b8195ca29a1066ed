/-
  Layer 17: All, and what it gives, for every loop body.
-/
import Derived.Test.YthcpnfelnonhnaaDoorPd
import Derived.Test.YthcpnfelnonhnaaDoorVa
namespace Go.Proofs.YthcpnfelnonhnaaDoor
open Go.RowKit

open Go.Shelf
attribute [local go_sem] Oper.semAt_some
/-- an entry that has come in -/
abbrev WE := { e : En // e.Wf }
abbrev ens (xs : List WE) : List En := xs.map (·.1)
/-- the value of a sequence that All handed back -/
abbrev seqV (B : Nat) : Value := .func (.func 36) #[] #[.pointer (some ⟨B, 0, none⟩)]
set_option maxHeartbeats 2000000 in
set_option maxRecDepth 100000 in
theorem all_is (p : Option Addr) (w : World) : Calls Tryd.prog 28 #[.pointer p] w fun e w' => e = .returned (seqV w.heap.size) ∧ w' = w.alloc (.cells #[.pointer p] 24) := by
  go_enter Tryd.func28, Tryd.ntmps28
  go_wp2
  go_ret
  exact ⟨rfl, rfl⟩
theorem seq_nil (B : Nat) (w : World) : (binOp BinOp.eql 84 (seqV B) .nilFunc).run Tryd.prog w = .ok (.bool false) w := by kernel_rfl
/-- what stands behind a cache's pointer: a cache with these entries, or nil, an empty one -/
def Stands (w : World) (p : Option Addr) (L : List En) : Prop := (p = none ∧ L = []) ∨ ∃ Q n ve nx, p = some ⟨Q, 0, none⟩ ∧ CAt w Q n ve L nx ∧ EnsWf L ∧ L.length ≤ 64
theorem Stands.later {w w' : World} {p : Option Addr} {L : List En} (h : Stands w p L) (hb : Below w.heap.size w w') : Stands w' p L := by
  rcases h with h | ⟨Q, n, ve, nx, rfl, h, h1, h2⟩
  · exact .inl h
  · exact .inr ⟨Q, n, ve, nx, rfl, h.later hb, h1, h2⟩
theorem Stands.few {w : World} {p : Option Addr} {L : List En} (h : Stands w p L) : L.length ≤ 64 := by
  rcases h with ⟨_, rfl⟩ | ⟨Q, n, ve, nx, _, _, _, h2⟩
  · simp
  · exact h2
theorem Stands.wf {w : World} {p : Option Addr} {L : List En} (h : Stands w p L) : EnsWf L := by
  rcases h with ⟨_, rfl⟩ | ⟨Q, n, ve, nx, _, _, h1, _⟩
  · exact EnsWf.nil
  · exact h1
theorem CAt.stands {w : World} {Q : Nat} {n nx : Int} {ve : Value} {L : List En} (h : CAt w Q n ve L nx) (hk : Okc n L nx) : Stands w (some ⟨Q, 0, none⟩) L := .inr ⟨Q, n, ve, nx, rfl, h, hk.wf, hk.few⟩
theorem ens_snoc (xs : List WE) (x : WE) : ens (xs ++ [x]) = ens xs ++ [x.1] := by simp [ens]
set_option maxHeartbeats 2000000 in
set_option maxRecDepth 100000 in
theorem all1_nil_in (F : Fence) (n : Nat) (h7 : F.fn 36) (hro : F.round = none) (l B : Nat) (J : List WE → World → Prop) (W : World) (hB : W.cell? ⟨B, 0, none⟩ = some (.pointer none)) (h0 : J [] W) :
    CallsIn F n Tryd.prog 36 #[.func (.yield l) #[] #[], .pointer (some ⟨B, 0, none⟩)] W fun e W' => (∃ v, e = .returned v) ∧ J [] W' := by
  refine callsIn_of_wp Tryd.func36 rfl h7 ?_ hro
  simp only [Tryd.ntmps36, List.size_toArray, List.length_cons, List.length_nil, Nat.reduceAdd, Nat.reduceSub, Array.replicate_succ, Array.replicate_zero, List.push_toArray, List.append_toArray, List.nil_append, List.cons_append]
  gi_wp2
  refine bodyPost_ret (results_none rfl _ _ _) rfl ?_
  exact ⟨⟨_, rfl⟩, h0⟩
set_option maxHeartbeats 4000000 in
set_option maxRecDepth 100000 in
theorem all1_at_in (F : Fence) (n : Nat) (h7 : F.fn 36) (hro : F.round = none) (_hn : 1 ≤ n) (l B Q n₀ : Nat) (m nx : Int) (ve : Value) (L : List En) (w₀ : World) (hz : w₀.heap.size = n₀) (hC : CAt w₀ Q m ve L nx) (hw : EnsWf L) (h64 : L.length ≤ 64) (J Jx : List WE → World → Prop) (W : World) (hJ : OwnFrom W.heap.size J)
    (hY : ∀ pre x V, J pre V → pre.length < L.length → YieldAt F (n - 1) Tryd.prog l #[.agg (ecells x.1).toArray] V fun e V' => KeepsFrom W.heap.size V V' ∧ ((e = .returned (.bool true) ∧ J (pre ++ [x]) V' ∧ Below n₀ V V') ∨ (e = .returned (.bool false) ∧ Jx (pre ++ [x]) V')))
    (hb : Below n₀ w₀ W) (hB : W.cell? ⟨B, 0, none⟩ = some (.pointer (some ⟨Q, 0, none⟩))) (h0 : J [] W) :
    CallsIn F n Tryd.prog 36 #[.func (.yield l) #[] #[], .pointer (some ⟨B, 0, none⟩)] W fun e W' => (∃ v, e = .returned v) ∧ ((∃ xs, ens xs = L ∧ J xs W') ∨ (∃ pre, ens pre <+: L ∧ Jx pre W')) := by
  subst hz
  obtain ⟨p, c, rfl, hE, hc⟩ := (hC.later hb).ein hw
  have c1 := (hC.later hb).c1
  have HE : Hid (∀ V, Below w₀.heap.size w₀ V → EIn V p L.length L) := fun V hV => by
    obtain ⟨p', c', e', hE', -⟩ := (hC.later hV).ein hw
    cases e'; exact hE'
  have HB0 : Hid (Below w₀.heap.size w₀ W) := hb
  have HW : Hid (EnsWf L) := hw
  have HJ : Hid (OwnFrom W.heap.size J) := hJ
  have HY : Hid (∀ pre x V, J pre V → pre.length < L.length → YieldAt F (n - 1) Tryd.prog l #[.agg (ecells x.1).toArray] V fun e V' => KeepsFrom W.heap.size V V' ∧ ((e = .returned (.bool true) ∧ J (pre ++ [x]) V' ∧ Below w₀.heap.size V V') ∨ (e = .returned (.bool false) ∧ Jx (pre ++ [x]) V'))) := hY
  clear hC hE hb hw hJ hY
  refine callsIn_of_wp Tryd.func36 rfl h7 ?_ hro
  simp only [Tryd.ntmps36, List.size_toArray, List.length_cons, List.length_nil, Nat.reduceAdd, Nat.reduceSub, Array.replicate_succ, Array.replicate_zero, List.push_toArray, List.append_toArray, List.nil_append, List.cons_append]
  gi_wp2
  gi_loopw [12] (fun i wr => ∃ k : Nat, k ≤ L.length ∧ i = .int .i64 k ∧ Hid (∃ xs : List WE, ens xs = L.take k ∧ J xs wr) ∧ Hid (Below w₀.heap.size w₀ wr)) (fun i _ => L.length - (intOf i).toNat)
  case atStart => exact ⟨0, Nat.zero_le _, rfl, (⟨[], rfl, h0⟩ : ∃ xs : List WE, ens xs = L.take 0 ∧ J xs W), HB0⟩
  case round =>
    obtain ⟨k, hk, rfl, HJs, HB⟩ := hrel
    by_cases hlt : k < L.length
    · obtain ⟨xs, hxs, hJs⟩ := HJs.out
      obtain ⟨x, hx⟩ : ∃ x, L[k]? = some x := ⟨_, List.getElem?_eq_getElem hlt⟩
      have hxw : x.Wf := HW.out x (List.mem_of_getElem? hx)
      have hEr := HE.out wr HB.out
      obtain ⟨b1, o1, rfl, -⟩ := hEr.cells (by omega)
      have HLd : Hid ((Instr.loadAt 57 (.pointer (some ⟨b1, o1 + k * 34, none⟩))).run Tryd.prog wr = .ok (.agg (ecells x).toArray) wr) := EIn.load etC hEr hx
      obtain ⟨w3, hw3⟩ : ∃ w3, w3 = wr.alloc (.cells (ecells en0).toArray 57) := ⟨_, rfl⟩
      obtain ⟨w4, hw4⟩ : ∃ w4, w4 = wr.alloc (.cells (ecells x).toArray 57) := ⟨_, rfl⟩
      have HAL : Hid ((Instr.alloc 57 true (.tuple #[])).run Tryd.prog wr = .ok (.pointer (some ⟨wr.heap.size, 0, none⟩)) w3) := by rw [hw3]; exact allocE etC wr
      have HST : Hid ((Instr.storeAt 57 (.pointer (some ⟨wr.heap.size, 0, none⟩)) (.agg (ecells x).toArray)).run Tryd.prog w3 = .ok () w4) := by rw [hw3, hw4]; exact store_newE etC wr x hxw.len
      have b4 : Below wr.heap.size wr w4 := by rw [hw4]; exact below_alloc wr _
      have HL4 : Hid ((Instr.loadAt 57 (.pointer (some ⟨wr.heap.size, 0, none⟩))).run Tryd.prog w4 = .ok (.agg (ecells x).toArray) w4) := by rw [hw4]; exact LAt.loadE etC (LAt.new _ _ _) hxw.len
      have J4 : J xs w4 := own_below HJ.out hJs b4
      have HB4 : Hid (Below w₀.heap.size w₀ w4) := below_then HB.out b4
      have hlen : xs.length = k := by
        have := congrArg List.length hxs
        rw [List.length_map, List.length_take] at this
        omega
      obtain ⟨fn, tmps, assign, body, hy, hR⟩ := HY.out xs ⟨x, hxw⟩ w4 J4 (by omega)
      have HT : Hid (ens (xs ++ [⟨x, hxw⟩]) = L.take (k + 1)) := by
        obtain ⟨hk', ex⟩ := List.getElem?_eq_some_iff.1 hx
        show _ = _
        rw [ens_snoc, hxs, List.take_succ_eq_append_getElem hk', ex]
      have i1 : (k : Int) < (L.length : Int) := by omega
      dsimp only at hy
      clear hw3 hw4 b4 hx hEr HJs hJs hxs J4 hlen
      gi_wp2_with ((with_reducible refine in_ops ?_); (first | ((first | (refine in_load (by rfl) 57 rfl rfl HLd.out ?_) | (refine in_load (by rfl) 57 rfl rfl HL4.out ?_) | (refine in_alloc (by rfl) 57 rfl HAL.out ?_)); simp only [Act.put, List.setIfInBounds_toArray, List.set_cons_zero, List.set_cons_succ]) | ((refine in_store (by rfl) 57 rfl rfl rfl HST.out ?_); simp only [Act.put])))
      refine hR.mono ?_
      rintro e V3 ⟨-, (⟨rfl, hJ3, hk3⟩ | ⟨rfl, hJx3⟩)⟩
      · have HJ3 : Hid (∃ ys : List WE, ens ys = L.take (k + 1) ∧ J ys V3) := ⟨_, HT.out, hJ3⟩
        have HB3 : Hid (Below w₀.heap.size w₀ V3) := HB4.out.trans hk3
        clear hJ3 hk3
        gi_wp2
        go_roundw
        case rel => exact ⟨k + 1, by omega, by simp, HJ3, HB3⟩
        case measure => simp [intOf]; omega
      · have HJx : Hid (∃ pre, ens pre <+: L ∧ Jx pre V3) := ⟨_, by rw [HT.out]; exact List.take_prefix _ _, hJx3⟩
        clear hJx3
        gi_wp2
        refine bodyPost_ret (results_none rfl _ _ _) rfl ?_
        exact ⟨⟨_, rfl⟩, .inr HJx.out⟩
    · have HF : Hid (∃ xs : List WE, ens xs = L ∧ J xs wr) := by
        obtain ⟨xs, h1, h2⟩ := HJs.out
        exact ⟨xs, by rw [h1, List.take_of_length_le (by omega)], h2⟩
      clear HJs
      gi_wp2
      go_end0
      exact ⟨⟨_, rfl⟩, .inl HF.out⟩
/-- **What All gives**: all entries, or a beginning of them, where a round has said 'no more'; as they stood when the loop begins, in memory below n₀ that no round turns. -/
theorem all1_seq (F : Fence) (n : Nat) (h7 : F.fn 36) (hro : F.round = none) (hn : 1 ≤ n) (B n₀ : Nat) (p : Option Addr) (L : List En) (w w₀ : World) (hn₀ : n₀ ≤ w.heap.size) (hw₀ : Below n₀ w₀ w) (hz₀ : w₀.heap.size = n₀)
    (hB : Boxed w B 24 (.pointer p)) (hS : Stands w₀ p L) :
    SeqIn F n Tryd.prog 36 #[.pointer (some ⟨B, 0, none⟩)] (fun x : WE => #[.agg (ecells x.1).toArray]) (Below n₀) (fun ys => ens ys = L) (fun pre => ens pre <+: L) L.length w := fun l J Jx W hW hJ _ hY h0 => by
  have hc' := (hW.cell (p := ⟨B, 0, none⟩) hB.lt).trans hB.cell
  have hb0 : Below n₀ w₀ W := hw₀.trans (hW.mono hn₀)
  rcases hS with ⟨rfl, rfl⟩ | ⟨Q, m, ve, nx, rfl, hC, h1, h2⟩
  · exact (all1_nil_in F n h7 hro l B J W hc' h0).mono fun e W' ⟨he, hj⟩ => ⟨he, .inl ⟨_, rfl, hj⟩⟩
  · exact all1_at_in F n h7 hro hn l B Q n₀ m nx ve L w₀ hz₀ hC h1 h2 J Jx W hJ hY hb0 hc' h0
end Go.Proofs.YthcpnfelnonhnaaDoor
