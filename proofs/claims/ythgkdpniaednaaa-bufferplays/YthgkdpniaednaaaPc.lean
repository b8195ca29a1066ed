/-
  Layer 16: how a buffer lies; its functions that only read, New, Copy.
-/
import Derived.Test.YthgkdpniaednaaaPb
import Derived.Test.YthgkdpniaednaaaBEa
namespace Go.Proofs.Ythgkdpniaednaaa
open Go.RowKit

open B (I64)
theorem isS_up {F : List Int} (h : B.isS F = true) : F.Pairwise (· < ·) := by
  have h4 := (of_decide_eq_true (show decide _ = true from h)).2.2.2
  have key : ∀ k i, i + k + 1 < F.length → F.getD i 0 < F.getD (i + k + 1) 0 := by
    intro k
    induction k with
    | zero => exact fun i hi => h4 i (by omega)
    | succ k ih =>
      intro i hi
      have a := ih i (by omega)
      have b := h4 (i + k + 1) (by omega)
      rw [show i + (k + 1) + 1 = i + k + 1 + 1 by omega]
      omega
  refine List.pairwise_iff_getElem.2 fun i j hi hj hij => ?_
  have := key (j - i - 1) i (by omega)
  rw [show i + (j - i - 1) + 1 = j by omega] at this
  simpa [List.getD, List.getElem?_eq_getElem hi, List.getElem?_eq_getElem hj] using this
theorem isS_len {F : List Int} (h : B.isS F = true) : 1 ≤ F.length ∧ F.length ≤ 16 := ⟨(of_decide_eq_true (show decide _ = true from h)).1, (of_decide_eq_true (show decide _ = true from h)).2.1⟩
theorem isS_range {F : List Int} (h : B.isS F = true) : ∀ x ∈ F, 0 ≤ x ∧ x < 64 := (of_decide_eq_true (show decide _ = true from h)).2.2.1
/-- what a buffer is: a form, and images of its blocks that rise -/
structure Okb (F : List Int) (L : List Im) : Prop where
  is : B.isS F = true
  up : UpI L
  ins : ∀ x ∈ L, x.b ∈ F
  wf : ImsWf L
theorem Okb.new {F : List Int} (h : B.isS F = true) : Okb F [] := ⟨h, List.Pairwise.nil, fun _ h => (List.not_mem_nil h).elim, ImsWf.nil⟩
theorem Okb.len {F : List Int} {L : List Im} (h : Okb F L) : L.length ≤ F.length := up_len h.up (isS_up h.is) h.ins
theorem Okb.few {F : List Int} {L : List Im} (h : Okb F L) : L.length ≤ 16 := Nat.le_trans h.len (isS_len h.is).2
theorem Okb.put {F : List Int} {L : List Im} (h : Okb F L) {b : Int} {v : List Int} (hb : b ∈ F) (hx : Im.Wf ⟨b, v⟩) : Okb F (pt L b v) :=
  ⟨h.is, pt_up h.up, fun x hm => by exact (mem_pt x hm).elim (fun e => by rw [e]; exact hb) (h.ins x), pt_wf h.wf hx⟩
/-- how it lies: its two cells, its form (that nobody writes), its row of images -/
structure BAt (w : World) (Q : Nat) (pf : Option Addr) (cf : Nat) (F : List Int) (vi : Value) (L : List Im) : Prop where
  st : w.heap[Q]? = some (.cells #[.slice pf F.length cf, vi] 65 (0, 0))
  form : B.IIn w pf F.length F
  fcap : F.length ≤ cf
  kind : ∀ a, pf = some a → ∃ cs, w.heap[a.block]? = some (.cells cs 3 (0, 0))
  row : IOwn w 0 vi L
section
variable {w w' : World} {Q cf : Nat} {pf : Option Addr} {F : List Int} {vi : Value} {L : List Im}
theorem BAt.lt (h : BAt w Q pf cf F vi L) : Q < w.heap.size := (Array.getElem?_eq_some_iff.1 h.st).1
theorem BAt.c0 (h : BAt w Q pf cf F vi L) : w.cell? ⟨Q, 0, none⟩ = some (.slice pf F.length cf) := by rw [cell_of_row _ Q 0 _ 65 (0, 0) h.st]; rfl
theorem BAt.c1 (h : BAt w Q pf cf F vi L) : w.cell? ⟨Q, 1, none⟩ = some vi := by rw [cell_of_row _ Q 1 _ 65 (0, 0) h.st]; rfl
theorem BAt.free (h : BAt w Q pf cf F vi L) (o : Nat) : w.frozen? ⟨Q, o, none⟩ = false := by simp [World.frozen?, h.st]
theorem BAt.later (h : BAt w Q pf cf F vi L) (hb : Below w.heap.size w w') : BAt w' Q pf cf F vi L := ⟨(hb.block Q h.lt).trans h.st, h.form.later hb, h.fcap, fun a ha => by obtain ⟨cs, hc⟩ := h.kind a ha; exact ⟨cs, (hb.block _ (Array.getElem?_eq_some_iff.1 hc).1).trans hc⟩, O.own_later h.row hb⟩
/-- a form's block lies as it lay -/
theorem iin_far {p : Option Addr} {n : Nat} {xs : List Int} (h : B.IIn w p n xs) (hk : ∀ a, p = some a → 0 < n → w'.heap[a.block]? = w.heap[a.block]?) : B.IIn w' p n xs := by
  refine ⟨h.len, fun h0 => ?_⟩
  obtain ⟨b, o, rfl, hc⟩ := h.cells h0
  exact ⟨b, o, rfl, fun i hi => (World.cell?_of_block (a := ⟨b, o + i, none⟩) (hk ⟨b, o, none⟩ rfl h0)).trans (hc i hi)⟩
/-- what else was written does not matter -/
theorem BAt.far {S : Nat → Prop} (h : BAt w Q pf cf F vi L) (hk : Kept S w w') (hQ : ¬ S Q) (hi : ∀ g, vi.ownBlock = some g → ¬ S g) (hf : ∀ a, pf = some a → ¬ S a.block) : BAt w' Q pf cf F vi L :=
  ⟨(hk.block Q h.lt hQ).trans h.st, iin_far h.form (fun a ha h0 => hk.block _ (by subst ha; exact h.form.lt h0) (hf a ha)), h.fcap, fun a ha => by obtain ⟨cs, hc⟩ := h.kind a ha; exact ⟨cs, (hk.block _ (Array.getElem?_eq_some_iff.1 hc).1 (hf a ha)).trans hc⟩, O.own_far h.row hk hi⟩
theorem BAt.ne (h : BAt w Q pf cf F vi L) : vi.ownBlock ≠ some Q := O.own_not h.row h.st (by decide)
theorem BAt.fne (h : BAt w Q pf cf F vi L) {a : Addr} (ha : pf = some a) : a.block ≠ Q ∧ vi.ownBlock ≠ some a.block := by
  obtain ⟨cs, hc⟩ := h.kind a ha
  refine ⟨fun e => ?_, O.own_not h.row hc (by decide)⟩
  rw [e, h.st] at hc
  simp at hc
theorem BAt.min (h : BAt w Q pf cf F vi L) (hw : ImsWf L) : ∃ p c, vi = .slice p L.length c ∧ MIn w p L.length L ∧ L.length ≤ c := by
  obtain ⟨p, c, e, hm, hc, _⟩ := IOwn.in h.row hw
  exact ⟨p, c, e, hm, hc⟩
set_option maxHeartbeats 2000000 in
set_option maxRecDepth 100000 in
theorem cloneM_at {B : Nat} {v : Value} (h : IOwn w B v L) (hw : ImsWf L) (hn : L.length ≤ 10000) : Calls Try.prog 28 #[v] w fun e w' => ∃ v', e = .returned v' ∧ IOwn w' w.heap.size v' L ∧ Below w.heap.size w w' := by
  rcases h.2 with ⟨rfl, e0⟩ | ⟨g, cap, cur, rfl, _, _, hc, _⟩
  · obtain rfl : L = [] := List.eq_nil_of_length_eq_zero e0
    have hnn : ∀ w : World, (binOp BinOp.eql 23 (.slice none 0 0) (.slice none 0 0)).run Try.prog w = .ok (.bool true) w := fun w => by kernel_rfl
    go_enter Try.func28, Try.ntmps28
    go_wp2
    go_ret
    exact ⟨_, rfl, World.ownsRow_nil _ _ _ _, Below.refl _ _⟩
  · obtain ⟨p, c, e, hM, hlc, _⟩ := IOwn.in h hw
    cases e
    have B0 := below_alloc w (.cells #[] 33)
    have hE : IOwn (w.alloc (.cells #[] 33)) w.heap.size (.slice (some ⟨w.heap.size, 0, none⟩) 0 0) [] := O.own_empty w (Nat.le_refl _)
    obtain ⟨q', c', W', hr, ho, hg, hat⟩ := app_ims (c := cap) hE ImsWf.nil (hM.later B0) (by simp; omega) (by simp)
    have hap : (Builtin.append_ #[23, 23] 23 #[.slice (some ⟨w.heap.size, 0, none⟩) 0 0, .slice (some ⟨g, 0, none⟩) L.length cap]).run Try.prog (w.alloc (.cells #[] 33)) = .ok (.slice q' L.length c') W' := hr
    have HO : Hid (IOwn W' w.heap.size (.slice q' L.length c') L) := ho
    have HB : Hid (Below w.heap.size w W') := (O.kept_grown hg).into B0 (fun b hb e => by simp [Value.ownBlock] at e; omega) (Nat.le_refl _)
    have hnn : ∀ w : World, (binOp BinOp.eql 23 (.slice (some ⟨g, 0, none⟩) L.length cap) (.slice none 0 0)).run Try.prog w = .ok (.bool false) w := fun w => by kernel_rfl
    clear hr ho hg hat hM hE h
    go_enter Try.func28, Try.ntmps28
    go_wp2_with (at_builtin; refine Lib.wpList_append_run _ rfl _ _ _ _ rfl _ _ rfl rfl _ _ hap ?_)
    go_ret
    exact ⟨_, rfl, HO.out, HB.out⟩
set_option maxHeartbeats 2000000 in
set_option maxRecDepth 100000 in
theorem cloneI_at {p : Option Addr} {n c : Nat} {xs : List Int} (h : B.IIn w p n xs) (h0 : 0 < n) (hnc : n ≤ c) (hn : n ≤ 10000) : Calls Try.prog 24 #[.slice p n c] w fun e w' => ∃ q d, e = .returned (.slice q n d) ∧ B.Made w w' q n d xs := by
  obtain ⟨b, o, rfl, -⟩ := h.cells h0
  obtain ⟨i0, hi, hz0, hz1, hz2⟩ := info_parts B.info3
  have hml : 10000 ≤ maxLen := by decide
  have hl := h.len
  have HI : Hid (B.IIn w (some ⟨b, o, none⟩) n xs) := h
  clear h
  have hnn : ∀ w : World, (binOp BinOp.eql 22 (.slice (some ⟨b, o, none⟩) n c) (.slice none 0 0)).run Try.prog w = .ok (.bool false) w := fun w => by kernel_rfl
  have HL : Hid ((I64 xs).length = n) := by show _ = _; rw [List.length_map, hl]
  clear hl
  go_enter Try.func24, Try.ntmps24
  go_wp2_with (at_builtin; (refine B.wpList_append_any _ rfl (.tmp 5) (.tmp 6) 22 rfl w.heap.size 3 i0 (.int .i64 0) 8 Try.underlying22 hi hz0 hz1 hz2 rfl (.slice (some ⟨w.heap.size, 0, none⟩) 0 0) 0 [] rfl (O.own_empty w (Nat.le_refl _)) (some ⟨b, o, none⟩) n c (I64 xs) rfl (fun e => by cases e) hnc HL.out ((HI.out.later (below_alloc w _)).newsAny) (B.ones_i64 xs) (by omega) (by omega) (by simp) ?_; intro v2 w2 r2 k2; have R2 : Hid (w2.ownsRow w.heap.size 3 1 v2 n (I64 xs) ∧ (w.alloc (.cells #[] 3)).grownBy w2 (some w.heap.size)) := ⟨by simpa using r2, k2⟩; clear r2 k2))
  go_ret
  have hb : Below w.heap.size w w2 := Kept.into (S := (· = w.heap.size)) ⟨R2.out.2.os, R2.out.2.tape, R2.out.2.output, R2.out.2.size, fun k hk hne => R2.out.2.block k hk (fun e => hne (by simpa using e))⟩ (below_alloc w _) (fun b hb e => by omega) (Nat.le_refl _)
  obtain ⟨q, d, rfl, hm⟩ := B.made_of R2.out.1 hb
  exact ⟨q, d, rfl, hm⟩
end
end Go.Proofs.Ythgkdpniaednaaa
