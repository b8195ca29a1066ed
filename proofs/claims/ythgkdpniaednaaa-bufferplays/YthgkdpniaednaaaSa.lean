/-
  Layer 16: the documents buffer: how it lies; its functions.
-/
import Derived.Test.YthgkdpniaednaaaRa
import Derived.Test.YthgkdpniaednaaaBGa
import Derived.Test.YthgkdpniaednaaaZa
namespace Go.Proofs.Ythgkdpniaednaaa
open Go.RowKit

open B (I64)
/-- how the document's buffer lies -/
structure RAt (w : World) (Q : Nat) (pf : Option Addr) (cf : Nat) (F : List Int) (vi : Value) (L : List Im) : Prop where
  st : w.heap[Q]? = some (.cells #[.slice pf F.length cf, vi] 72 (0, 0))
  form : B.IIn w pf F.length F
  fcap : F.length ≤ cf
  kind : ∀ a, pf = some a → ∃ cs, w.heap[a.block]? = some (.cells cs 3 (0, 0))
  row : IOwn w 0 vi L
section
variable {w w' : World} {Q cf R cs : Nat} {pf ps : Option Addr} {F : List Int} {vi vw : Value} {L D : List Im}
theorem RAt.lt (h : RAt w Q pf cf F vi L) : Q < w.heap.size := (Array.getElem?_eq_some_iff.1 h.st).1
theorem RAt.c0 (h : RAt w Q pf cf F vi L) : w.cell? ⟨Q, 0, none⟩ = some (.slice pf F.length cf) := by rw [cell_of_row _ Q 0 _ 72 (0, 0) h.st]; rfl
theorem RAt.c1 (h : RAt w Q pf cf F vi L) : w.cell? ⟨Q, 1, none⟩ = some vi := by rw [cell_of_row _ Q 1 _ 72 (0, 0) h.st]; rfl
theorem RAt.free (h : RAt w Q pf cf F vi L) (o : Nat) : w.frozen? ⟨Q, o, none⟩ = false := by simp [World.frozen?, h.st]
theorem RAt.later (h : RAt w Q pf cf F vi L) (hb : Below w.heap.size w w') : RAt w' Q pf cf F vi L := ⟨(hb.block Q h.lt).trans h.st, h.form.later hb, h.fcap, fun a ha => by obtain ⟨cs, hc⟩ := h.kind a ha; exact ⟨cs, (hb.block _ (Array.getElem?_eq_some_iff.1 hc).1).trans hc⟩, O.own_later h.row hb⟩
/-- what else was written does not matter -/
theorem RAt.far {S : Nat → Prop} (h : RAt w Q pf cf F vi L) (hk : Kept S w w') (hQ : ¬ S Q) (hi : ∀ g, vi.ownBlock = some g → ¬ S g) (hf : ∀ a, pf = some a → ¬ S a.block) : RAt w' Q pf cf F vi L :=
  ⟨(hk.block Q h.lt hQ).trans h.st, iin_far h.form (fun a ha h0 => hk.block _ (by subst ha; exact h.form.lt h0) (hf a ha)), h.fcap, fun a ha => by obtain ⟨cs, hc⟩ := h.kind a ha; exact ⟨cs, (hk.block _ (Array.getElem?_eq_some_iff.1 hc).1 (hf a ha)).trans hc⟩, O.own_far h.row hk hi⟩
theorem RAt.ne (h : RAt w Q pf cf F vi L) : vi.ownBlock ≠ some Q := O.own_not h.row h.st (by decide)
theorem RAt.fne (h : RAt w Q pf cf F vi L) {a : Addr} (ha : pf = some a) : a.block ≠ Q ∧ vi.ownBlock ≠ some a.block := by
  obtain ⟨cs, hc⟩ := h.kind a ha
  refine ⟨fun e => ?_, O.own_not h.row hc (by decide)⟩
  rw [e, h.st] at hc
  simp at hc
theorem RAt.min (h : RAt w Q pf cf F vi L) (hw : ImsWf L) : ∃ p c, vi = .slice p L.length c ∧ MIn w p L.length L ∧ L.length ≤ c := by
  obtain ⟨p, c, e, hm, hc, _⟩ := IOwn.in h.row hw
  exact ⟨p, c, e, hm, hc⟩
theorem RAt.grew {W W' : World} {L' : List Im} (h : RAt W Q pf cf F vi L) (hr : IOwn W' 0 vi L') (hg : W.grownBy W' vi.ownBlock) : RAt W' Q pf cf F vi L' := by
  have hk := O.kept_grown hg
  refine ⟨(hk.block Q h.lt h.ne).trans h.st, iin_far h.form (fun a ha h0 => hk.block _ (by subst ha; exact h.form.lt h0) (h.fne ha).2), h.fcap, fun a ha => ?_, hr⟩
  obtain ⟨cs, hc⟩ := h.kind a ha
  exact ⟨cs, (hk.block _ (Array.getElem?_eq_some_iff.1 hc).1 (h.fne ha).2).trans hc⟩
/-- another row of images is laid into its cell -/
theorem RAt.lay {W : World} {v' : Value} {L' : List Im} (st : W.heap[Q]? = some (.cells #[.slice pf F.length cf, vi] 72 (0, 0))) (form : B.IIn W pf F.length F) (fcap : F.length ≤ cf) (kind : ∀ a, pf = some a → ∃ cs, W.heap[a.block]? = some (.cells cs 3 (0, 0))) (hr : IOwn W 0 v' L') : RAt (W.setCell ⟨Q, 1, none⟩ v') Q pf cf F v' L' := by
  have hk := Kept.setCell (w := W) Q 1 v'
  have fq : ∀ a, pf = some a → a.block ≠ Q := fun a ha e => by
    obtain ⟨cs, hc⟩ := kind a ha
    rw [e, st] at hc
    simp at hc
  refine ⟨?_, iin_far form (fun a ha h0 => hk.block _ (by subst ha; exact form.lt h0) (fq a ha)), fcap, fun a ha => ?_, O.own_far hr hk (fun g hg e => O.own_not hr st (by decide) (by rw [hg]; exact congrArg some e))⟩
  · rw [setCell_eq_setRow W Q 1 _ 72 (0, 0) v' st]
    exact setRow_heap W Q _ _ 72 _ st
  · obtain ⟨cs, hc⟩ := kind a ha
    exact ⟨cs, (hk.block _ (Array.getElem?_eq_some_iff.1 hc).1 (fq a ha)).trans hc⟩
section
variable {P : Program} {ops : Array Oper} {o : Oper} {a : Act}
theorem step_append_is {w w' : World} {K : Act → World → Prop} {Q : Exit → Act → World → Prop} {E : Prop} (hw : Region.wanted o (yielded ops a.tmps) = true) {s x : Operand} {t ty : TypeId} (ho : o.op = .call { callee := .builtin .append, args := #[s, x], argTypes := #[t, t] }) (hty : o.type = ty) {u1 u2 v : Value} (hs : a.eval s = u1) (hx : a.eval x = u2) (hrun : (Builtin.append_ #[t, t] ty #[u1, u2]).run P w = .ok v w') (hK : K (a.put o.dst v) w') :
    if Region.wanted o (yielded ops a.tmps) = true then Oper.wp P o a w K Q else E := by
  rw [if_pos hw]
  have hr : (execOp a.eval o).run P w = .ok (.value v) w' := by subst hty; simp [execOp, ho, resolve, invoke, builtin, hs, hx, hrun, Result.andThen]
  unfold Oper.wp
  rw [hr]
  exact hK
end
theorem okb_ims {F : List Int} {D : List Im} (hi : B.isS F = true) (hw : ImsWf D) : Okb F (ims F D) := ⟨hi, ims_up (isS_up hi), ims_in, ims_wf hw⟩
theorem wr_ims {F : List Int} {D : List Im} (hi : B.isS F = true) (b : Int) (v : List Int) : wrS F (ims F D) b v = ims F (if B.hasS F b = true then D ++ [⟨b, v⟩] else D) := by
  unfold wrS
  split
  · rename_i h; exact pt_ims (isS_up hi) (B.hasS_iff.1 h) v
  · rfl
/-- what the document's writes are behind a write -/
def wrD (F : List Int) (D : List Im) (b : Int) (v : List Int) : List Im := if B.hasS F b = true then D ++ [⟨b, v⟩] else D
theorem wrD_wf {F : List Int} {D : List Im} (h : ImsWf D) {b : Int} {v : List Int} (hx : Im.Wf ⟨b, v⟩) : ImsWf (wrD F D b v) := by
  unfold wrD; split
  · exact h.snoc hx
  · exact h
theorem wrD_len (F : List Int) (D : List Im) (b : Int) (v : List Int) : (wrD F D b v).length ≤ D.length + 1 := by
  unfold wrD; split <;> simp
theorem rdV_ims {F : List Int} {D : List Im} (hi : B.isS F = true) (b : Int) : rdV F (ims F D) b = if B.hasS F b = true then (lst D b).getD (zs 32) else zs 32 := by
  unfold rdV
  split
  · rename_i h; rw [gt_ims (isS_up hi) (B.hasS_iff.1 h)]
  · rfl
theorem rdB_ims {F : List Int} {D : List Im} (hi : B.isS F = true) (b : Int) : rdB F (ims F D) b = (B.hasS F b && (lst D b).isSome) := by
  unfold rdB
  cases h : B.hasS F b with
  | true => rw [gt_ims (isS_up hi) (B.hasS_iff.1 h)]
  | false => rfl
/-- a new one -/
structure NewR (w w' : World) (R : Nat) (ps : Option Addr) (cs : Nat) (F : List Int) (vw : Value) (D : List Im) : Prop where
  at' : RAt w' R ps cs F vw D
  below : Below w.heap.size w w'
  q : w.heap.size ≤ R
  row : ∀ g, vw.ownBlock = some g → w.heap.size ≤ g
  set : ∀ a, ps = some a → w.heap.size ≤ a.block ∧ a.block ≠ R
set_option maxHeartbeats 2000000 in
set_option maxRecDepth 100000 in
theorem rnew_at {p : Option Addr} {n c : Nat} (h : B.IIn w p n F) (hp : p = none → c = 0) (hnc : n ≤ c) (hn : n ≤ 140737488355328) (hi : B.isS F = true) : Calls Try.prog 17 #[.slice p n c] w fun e w' => ∃ R ps cs, e = .returned (.tuple #[.pointer (some ⟨R, 0, none⟩), .int .i64 0]) ∧ NewR w w' R ps cs F (.slice none 0 0) [] := by
  have HI : Hid (B.IIn w p n F) := h
  have HS : Hid (B.isS F = true) := hi
  have hl := isS_len hi
  have hlen := h.len
  have HL : Hid ((I64 F).length = n) := by show _ = _; rw [List.length_map, hlen]
  obtain ⟨i0, hi0, hz0, hz1, hz2⟩ := info_parts B.info3
  have hml : 10000 ≤ maxLen := by decide
  clear h hi
  go_enter Try.func17, Try.ntmps17
  go_wp2_with fail
  refine (B.ris_is _ _ _ _ _ HI.out hn).mono ?_
  rintro e w1 ⟨rfl, b1⟩
  rw [HS.out]
  have HI1 : Hid (B.IIn w1 p n F) := HI.out.later b1
  have HB1 : Hid (Below w.heap.size w w1) := b1
  clear b1
  go_wp2_with (at_builtin; (refine B.wpList_append_any _ rfl (.tmp 7) (.tmp 8) 22 rfl w1.heap.size 3 i0 (.int .i64 0) 8 Try.underlying22 hi0 hz0 hz1 hz2 rfl (.slice (some ⟨w1.heap.size, 0, none⟩) 0 0) 0 [] rfl (O.own_empty w1 (Nat.le_refl _)) p n c (I64 F) rfl hp hnc HL.out ((HI1.out.later (below_alloc w1 _)).newsAny) (B.ones_i64 F) (by omega) (by omega) (by simp) ?_; intro v2 w2 r2 k2; have R2 : Hid (w2.ownsRow w1.heap.size 3 1 v2 n (I64 F) ∧ (w1.alloc (.cells #[] 3)).grownBy w2 (some w1.heap.size)) := ⟨by simpa using r2, k2⟩; obtain ⟨p2, c2, hv2, -⟩ := O.own_form R2.out.1; subst hv2; clear r2 k2))
  go_ret2
  have hb : Below w1.heap.size w1 w2 := Kept.into (S := (· = w1.heap.size)) ⟨R2.out.2.os, R2.out.2.tape, R2.out.2.output, R2.out.2.size, fun k hk hne => R2.out.2.block k hk (fun e => hne (by simpa using e))⟩ (below_alloc w1 _) (fun b hb e => by omega) (Nat.le_refl _)
  have hM : B.Made w1 w2 p2 n c2 F := ⟨R2.out.1, hb⟩
  have hb3 := below_alloc w2 (.cells #[.slice p2 n c2, .slice none 0 0] 72)
  have sz1 := HB1.out.size
  have sz2 := hb.size
  refine ⟨w2.heap.size, p2, c2, rfl, ⟨?_, below_then HB1.out (below_then hb hb3), by omega, fun g hg => (by cases hg), fun a ha => ?_⟩⟩
  · refine ⟨by rw [hlen]; exact heap_alloc_new w2 _, by rw [hlen]; exact (hM.read).later hb3, ?_, fun a ha => ?_, World.ownsRow_nil _ _ _ _⟩
    · obtain ⟨p', c', e, hc, _⟩ := O.own_form hM.own
      cases e; rw [hlen]; exact hc
    · subst ha
      rcases hM.own.2 with ⟨e, _⟩ | ⟨g, cap, cur, e, _, hg, _⟩
      · cases e
      · cases e; exact ⟨cur, (hb3.block g (Array.getElem?_eq_some_iff.1 hg).1).trans hg⟩
  · subst ha
    rcases hM.own.2 with ⟨e, _⟩ | ⟨g, cap, cur, e, h1, hg, _⟩
    · cases e
    · cases e
      have := (Array.getElem?_eq_some_iff.1 hg).1
      exact ⟨Nat.le_trans sz1 h1, by show g ≠ _; omega⟩
set_option maxHeartbeats 2000000 in
set_option maxRecDepth 100000 in
theorem rnew_no {p : Option Addr} {n c : Nat} (h : B.IIn w p n F) (hn : n ≤ 140737488355328) (hi : B.isS F = false) : Calls Try.prog 17 #[.slice p n c] w fun e w' => e = .returned (.tuple #[.pointer none, .int .i64 53]) ∧ Below w.heap.size w w' := by
  have HI : Hid (B.IIn w p n F) := h
  have HS : Hid (B.isS F = false) := hi
  clear h hi
  go_enter Try.func17, Try.ntmps17
  go_wp2_with fail
  refine (B.ris_is _ _ _ _ _ HI.out hn).mono ?_
  rintro e w1 ⟨rfl, b1⟩
  rw [HS.out]
  have HB1 : Hid (Below w.heap.size w w1) := b1
  clear b1
  go_wp2
  go_ret2
  exact ⟨rfl, HB1.out⟩
set_option maxHeartbeats 2000000 in
set_option maxRecDepth 100000 in
theorem rwrite_at (h : RAt w R ps cs F vw D) (hi : B.isS F = true) (hw : ImsWf D) (hn : D.length ≤ 9000) {b : Int} {v : List Int} (hx : Im.Wf ⟨b, v⟩) : Calls Try.prog 32 #[.pointer (some ⟨R, 0, none⟩), .int .i64 b, .agg (U8 v).toArray] w fun e w' => e = .returned (.int .i64 (refS F b)) ∧ ∃ vw', RAt w' R ps cs F vw' (wrD F D b v) ∧ Kept (fun k => k = R ∨ vw.ownBlock = some k) w w' ∧ (∀ g, vw'.ownBlock = some g → vw.ownBlock = some g ∨ w.heap.size ≤ g) := by
  have hF := (isS_len hi).2
  obtain ⟨w1, hw1⟩ : ∃ w1, w1 = w.alloc (.cells (U8 v).toArray 31) := ⟨_, rfl⟩
  have HVL : Hid ((U8 v).length = 32) := by show _ = _; rw [U8_length]; exact hx.len
  have B1 : Below w.heap.size w w1 := by rw [hw1]; exact below_alloc w _
  have HV1 : Hid (VAt w1 w.heap.size v) := by rw [hw1]; exact LAt.new _ _ _
  have HA1 : Hid (RAt w1 R ps cs F vw D) := h.later B1
  have HB1 : Hid (Below w.heap.size w w1) := B1
  have HX : Hid (Im.Wf ⟨b, v⟩) := hx
  have HDW : Hid (ImsWf D) := hw
  have hw1' := hw1.symm
  have c0 := HA1.out.c0
  clear B1 h hw1 hx hw
  go_enter Try.func32, Try.ntmps32
  by_cases hb : b ∈ F
  · have HR : Hid (refS F b = 0) := refS_in hb
    have HH : Hid (B.hasS F b = true) := B.hasS_iff.2 hb
    clear hb
    go_wp2_with (go_at_call 8; refine (B.rhas_is _ _ _ _ _ _ HA1.out.form (by omega)).mono ?_; rintro e w' ⟨rfl, hw'⟩; rw [← hw', HH.out]; clear hw' w')
    clear hw1'
    obtain ⟨pw, cw, rfl, hM, hcw⟩ := HA1.out.min HDW.out
    have hD : Below w1.heap.size w1 w1.drew := below_drawn 1
    have HAD : Hid (RAt w1.drew R ps cs F (.slice pw D.length cw) D) := HA1.out.later hD
    have HRW : Hid (IOwn w1.drew 0 (.slice pw D.length cw) D) := HAD.out.row
    have HBD : Hid (Below w.heap.size w w1.drew) := below_then HB1.out hD
    have HSD : Hid (w1.drew.cell? ⟨R, 1, none⟩ = some (.slice pw D.length cw) ∧ VAt w1.drew w.heap.size v) := ⟨HAD.out.c1, LAt.later HV1.out hD⟩
    have HWD : Hid (wrD F D b v = D ++ [⟨b, v⟩]) := if_pos HH.out
    clear hM hD HA1 HB1 HV1 c0
    refine wp_region_noPanic ?_
    refine wp_region_last 12 (fun W => W.cell? ⟨R, 1, none⟩ = some (.slice pw D.length cw) ∧ VAt W w.heap.size v) (by kernel_rfl) ?_
    generalize w1.drew = wD at *
    have hHeld := HSD.out
    refine wpAnyL_take (i := 0) (v := ?va1) (by simp; rfl) (by kernel_rfl) (by kernel_rfl) (by kernel_rfl) (by kernel_rfl) (fun _ _ _ h => h) (Or.inl ⟨by rfl, ?ya1⟩) hHeld ?ra1
    case ya1 => intro w hSw; clear hSw; go_simp; with_reducible rfl
    simp only [Act.put, List.setIfInBounds_toArray, List.set_cons_zero, List.set_cons_succ]
    refine wpAnyL_take (i := 1) (v := ?va2) (by simp; rfl) (by kernel_rfl) (by kernel_rfl) (by kernel_rfl) (by kernel_rfl) (fun _ _ _ h => h) (Or.inl ⟨by rfl, ?ya2⟩) hHeld ?ra2
    case ya2 => intro w hSw; clear hSw; go_simp; with_reducible rfl
    simp only [Act.put, List.setIfInBounds_toArray, List.set_cons_zero, List.set_cons_succ]
    refine wpAnyL_take (i := 2) (v := ?va3) (by simp; rfl) (by kernel_rfl) (by kernel_rfl) (by kernel_rfl) (by kernel_rfl) (fun _ _ _ h => h) (Or.inl ⟨by rfl, ?ya3⟩) hHeld ?ra3
    case ya3 => intro w hSw; clear hSw; go_simp; with_reducible rfl
    simp only [Act.put, List.setIfInBounds_toArray, List.set_cons_zero, List.set_cons_succ]
    refine wpAnyL_take (i := 3) (v := ?va4) (by simp; rfl) (by kernel_rfl) (by kernel_rfl) (by kernel_rfl) (by kernel_rfl) (fun _ _ _ h => h) (Or.inl ⟨by rfl, ?ya4⟩) hHeld ?ra4
    case ya4 => intro w hSw; clear hSw; go_simp; with_reducible rfl
    simp only [Act.put, List.setIfInBounds_toArray, List.set_cons_zero, List.set_cons_succ]
    refine wpAnyL_take (i := 4) (v := ?va5) (by simp; rfl) (by kernel_rfl) (by kernel_rfl) (by kernel_rfl) (by kernel_rfl) (fun _ _ _ h => h) (Or.inl ⟨by rfl, ?ya5⟩) hHeld ?ra5
    case ya5 => intro w hSw; have z := hSw.1; clear hSw; go_simp; with_reducible rfl
    simp only [Act.put, List.setIfInBounds_toArray, List.set_cons_zero, List.set_cons_succ]
    refine wpAnyL_take (i := 5) (v := ?va6) (by simp; rfl) (by kernel_rfl) (by kernel_rfl) (by kernel_rfl) (by kernel_rfl) (fun _ _ _ h => h) (Or.inl ⟨by rfl, ?ya6⟩) hHeld ?ra6
    case ya6 => intro w hSw; clear hSw; go_simp; with_reducible rfl
    simp only [Act.put, List.setIfInBounds_toArray, List.set_cons_zero, List.set_cons_succ]
    refine wpAnyL_take (i := 6) (v := _) (by simp; rfl) (by kernel_rfl) (by kernel_rfl) (by kernel_rfl) (by kernel_rfl) (fun _ _ _ h => h) (yieldsIf_load_mid (by rfl) 31 (.tmp 5) rfl w.heap.size 0 rfl (U8 v) _ (fun W hW => LAt.range hW.2) Try.underlying31 rfl (by rw [sizeV, HVL.out])) hHeld ?_
    simp only [Act.put, List.setIfInBounds_toArray, List.set_cons_zero, List.set_cons_succ]
    refine wpAnyL_take (i := 7) (v := _) (by simp; rfl) (by kernel_rfl) (by kernel_rfl) (by kernel_rfl) (by kernel_rfl) (fun _ _ _ h => h) (yields_build_is (vs := [(0, .int .i64 b), (1, .agg (U8 v).toArray)]) (by rfl) 33 rfl (by rfl) (fun w => buildI w b v HX.out.len)) hHeld ?_
    simp only [Act.put, List.setIfInBounds_toArray, List.set_cons_zero, List.set_cons_succ]
    refine wpAnyL_ready (rs := [8]) (by kernel_rfl) (by simp) ?_
    refine AllReadyL.cons (by simp; rfl) (fun Kc hKc => ?_) AllReadyL.nil
    refine step_slice_is (vs := [(0, .agg (icells ⟨b, v⟩).toArray)]) (by rfl) 23 1 rfl rfl (build_im wD ⟨b, v⟩ HX.out.len) ?_
    obtain ⟨wB, hwB⟩ : ∃ wB, wB = wD.alloc (.cells (icells ⟨b, v⟩).toArray 33) := ⟨_, rfl⟩
    obtain ⟨nB, hnB⟩ : ∃ nB, nB = wD.heap.size := ⟨_, rfl⟩
    have HbB : Hid (Below wD.heap.size wD wB) := by rw [hwB]; exact below_alloc _ _
    have HLB : Hid (LAt 33 wB nB (icells ⟨b, v⟩)) := by rw [hwB, hnB]; exact LAt.new _ _ _
    have HnB : Hid (nB = wD.heap.size) := hnB
    have HSB : Hid (wB.cell? ⟨R, 1, none⟩ = some (.slice pw D.length cw) ∧ VAt wB w.heap.size v) := ⟨(HAD.out.later HbB.out).c1, LAt.later hHeld.2 HbB.out⟩
    rw [← hwB, ← hnB]
    refine hKc.out _ _ (fun _ => HSB.out) ?_
    clear hHeld
    have hHeld := HSB.out
    clear hKc Kc hwB hnB
    simp only [Act.put, List.setIfInBounds_toArray, List.set_cons_zero, List.set_cons_succ]
    refine wpAnyL_ready (rs := [9]) (by kernel_rfl) (by simp) ?_
    refine AllReadyL.cons (by simp; rfl) (fun Kc hKc => ?_) AllReadyL.nil
    have hMB : MIn wB (some ⟨nB, 0, none⟩) 1 [⟨b, v⟩] := ⟨rfl, fun y hy => by rw [List.mem_singleton.1 hy]; exact HX.out, fun _ => ⟨nB, 0, rfl, fun j u hj => by rw [Nat.zero_add, LAt.cell HLB.out]; simpa [IC] using hj⟩⟩
    obtain ⟨q', c', wA, hap, ho, hg, hat⟩ := app_ims (c := 1) (O.own_later HRW.out HbB.out) HDW.out hMB (by omega) (Nat.zero_le _)
    have HO : Hid (IOwn wA 0 (.slice q' (D ++ [(⟨b, v⟩ : Im)]).length c') (D ++ [⟨b, v⟩]) ∧ wB.grownBy wA (Value.slice pw D.length cw).ownBlock ∧ ((Value.slice q' (D ++ [(⟨b, v⟩ : Im)]).length c').ownBlock = (Value.slice pw D.length cw).ownBlock ∨ (Value.slice q' (D ++ [(⟨b, v⟩ : Im)]).length c').ownBlock = some wB.heap.size)) := ⟨ho, hg, hat⟩
    have HAP : Hid ((Builtin.append_ #[23, 23] 23 #[.slice pw D.length cw, .slice (some ⟨nB, 0, none⟩) 1 1]).run Try.prog wB = .ok (.slice q' (D ++ [(⟨b, v⟩ : Im)]).length c') wA) := hap
    have AB : RAt wB R ps cs F (.slice pw D.length cw) D := HAD.out.later HbB.out
    have AA : RAt wA R ps cs F (.slice pw D.length cw) D → True := fun _ => trivial
    have kA := O.kept_grown hg
    have st4 : wA.heap[R]? = some (.cells #[.slice ps F.length cs, .slice pw D.length cw] 72 (0, 0)) := (kA.block R AB.lt AB.ne).trans AB.st
    have f4 : B.IIn wA ps F.length F := iin_far AB.form (fun a ha h0 => kA.block _ (by subst ha; exact AB.form.lt h0) (AB.fne ha).2)
    have k4 : ∀ a, ps = some a → ∃ cs, wA.heap[a.block]? = some (.cells cs 3 (0, 0)) := fun a ha => by
      obtain ⟨cs', hc'⟩ := AB.kind a ha
      exact ⟨cs', (kA.block _ (Array.getElem?_eq_some_iff.1 hc').1 (AB.fne ha).2).trans hc'⟩
    have A5 : RAt (wA.setCell ⟨R, 1, none⟩ (.slice q' (D ++ [(⟨b, v⟩ : Im)]).length c')) R ps cs F (.slice q' (D ++ [(⟨b, v⟩ : Im)]).length c') (D ++ [⟨b, v⟩]) := RAt.lay st4 f4 AB.fcap k4 ho
    have HQ1 : Hid (wA.cell? ⟨R, 1, none⟩ = some (.slice pw D.length cw)) := by show _ = _; rw [cell_of_row _ R 1 _ 72 (0, 0) st4]; rfl
    have HQ2 : Hid (wA.frozen? ⟨R, 1, none⟩ = false) := by show _ = _; simp [World.frozen?, st4]
    have HFIN : Hid (RAt (wA.setCell ⟨R, 1, none⟩ (.slice q' (D ++ [(⟨b, v⟩ : Im)]).length c')) R ps cs F (.slice q' (D ++ [(⟨b, v⟩ : Im)]).length c') (D ++ [⟨b, v⟩]) ∧ Kept (fun k => k = R ∨ (Value.slice pw D.length cw).ownBlock = some k) w (wA.setCell ⟨R, 1, none⟩ (.slice q' (D ++ [(⟨b, v⟩ : Im)]).length c')) ∧ (∀ g, (Value.slice q' (D ++ [(⟨b, v⟩ : Im)]).length c').ownBlock = some g → (Value.slice pw D.length cw).ownBlock = some g ∨ w.heap.size ≤ g)) := by
      refine ⟨A5, ?_, fun g hg' => ?_⟩
      · have k1 : Kept (fun k => k = R ∨ (Value.slice pw D.length cw).ownBlock = some k) w wB := Kept.of_below _ (below_then HBD.out HbB.out)
        exact (k1.trans kA (fun x _ e => .inr e)).trans (Kept.setCell R 1 _) (fun x _ e => .inl e)
      · rcases hat with e | e
        · exact .inl (e ▸ hg')
        · rw [e] at hg'; cases hg'; exact .inr (Nat.le_trans HBD.out.size HbB.out.size)
    have HSA : Hid (wA.cell? ⟨R, 1, none⟩ = some (.slice pw D.length cw) ∧ VAt wA w.heap.size v) := ⟨HQ1.out, (hg.block _ (LAt.lt hHeld.2) (fun e => O.own_not AB.row hHeld.2 (by decide) e.symm)).trans hHeld.2⟩
    clear hap ho hg hat hMB AB AA kA st4 f4 k4 A5 HO
    generalize (D ++ [(⟨b, v⟩ : Im)]).length = m at *
    refine step_append_is (by rfl) rfl rfl rfl rfl HAP.out ?_
    refine hKc.out _ _ (fun _ => HSA.out) ?_
    clear hHeld
    have hHeld := HSA.out
    clear hKc Kc HAP
    simp only [Act.put, List.setIfInBounds_toArray, List.set_cons_zero, List.set_cons_succ]
    refine wpAnyL_ready (rs := [10]) (by kernel_rfl) (by simp) ?_
    refine AllReadyL.cons (by simp; rfl) (fun Kc hKc => ?_) AllReadyL.nil
    go_simp
    refine hKc.out _ _ (fun _ => HSA.out) ?_
    clear hHeld
    have hHeld := HSA.out
    clear hKc Kc
    refine wpAnyL_ready (rs := [11]) (by kernel_rfl) (by simp) ?_
    refine AllReadyL.cons (by simp; rfl) (fun Kc hKc => ?_) AllReadyL.nil
    go_simp
    refine hKc.out _ _ (fun _ => HSA.out) ?_
    clear hHeld
    have hHeld := HSA.out
    clear hKc Kc
    refine wpAnyL_ready (rs := [12]) (by kernel_rfl) (by simp) ?_
    refine AllReadyL.cons (by simp; rfl) (fun Kc hKc => ?_) AllReadyL.nil
    have q1 : wA.cell? ⟨R, 1, none⟩ = some (.slice pw D.length cw) := HQ1.out
    have q2 : wA.frozen? ⟨R, 1, none⟩ = false := HQ2.out
    go_simp
    refine hKc.out _ _ (fun h => absurd rfl h) ?_
    clear hKc Kc hHeld q1 q2
    refine wpAnyL_done (by kernel_rfl) (NoPanic.normal ?_) _
    go_wp2
    go_ret
    exact ⟨by rw [HR.out]; rfl, _, by rw [HWD.out]; exact HFIN.out⟩
  · have HR : Hid (refS F b = 160) := refS_out hb
    have HH : Hid (B.hasS F b = false) := has_out hb
    clear hb
    go_wp2_with (go_at_call 8; refine (B.rhas_is _ _ _ _ _ _ HA1.out.form (by omega)).mono ?_; rintro e w' ⟨rfl, hw'⟩; rw [← hw', HH.out]; clear hw' w')
    go_ret
    exact ⟨by rw [HR.out]; rfl, vw, by unfold wrD; rw [if_neg (by rw [HH.out]; decide)]; exact HA1.out, Kept.of_below _ HB1.out, fun g hg => .inl hg⟩
end
end Go.Proofs.Ythgkdpniaednaaa
