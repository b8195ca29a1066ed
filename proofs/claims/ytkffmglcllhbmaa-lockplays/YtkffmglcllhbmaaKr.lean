/-
  Layer 14: All.
-/
import Derived.Test.YtkffmglcllhbmaaKq
namespace Go.Proofs.Ytkffmglcllhbmaa
open Go.RowKit

open Go.Shelf
attribute [local go_sem] Oper.semAt_some
theorem grown_of_below {V V' : World} (h : Below V.heap.size V V') : V.grownBy V' none := ⟨h.os, h.tape, h.output, h.size, fun k hk _ => h.block k hk⟩
theorem keeps_of_below {V V' : World} (h : Below V.heap.size V V') (B : Nat) : KeepsFrom B V V' := ⟨h.size, fun k _ _ hk _ => (h.block k (Array.getElem?_eq_some_iff.1 hk).1).trans hk⟩
theorem own_below {β : Type} {B : Nat} {J : β → World → Prop} (h : OwnFrom B J) {s : β} {V V' : World} (hs : J s V) (hb : Below V.heap.size V V') : J s V' := h s V V' none hs (grown_of_below hb) (fun _ e => by cases e)
theorem own_wide {β : Type} {B C : Nat} {J : β → World → Prop} (h : OwnFrom B J) (hb : B ≤ C) : OwnFrom C J := fun s V V' row hs hg hr => h s V V' row hs hg fun r e => ⟨Nat.le_trans hb (hr r e).1, (hr r e).2⟩
theorem own_box {β : Type} (B k : Nat) (t : TypeId) (v : Value) : OwnFrom B (fun (_ : β) W => Boxed W k t v) := Own.from (boxed_own k t (fun _ => v)) B
abbrev UT := { x : Int // U64 x }
theorem yield_mono {F : Fence} {m : Nat} {P : Program} {l : Nat} {args : Array Value} {W : World} {R R' : Ending → World → Prop} (h : YieldAt F m P l args W R) (hr : ∀ e w, R e w → R' e w) : YieldAt F m P l args W R' := by
  obtain ⟨fn, tmps, assign, body, hy, hf, hR⟩ := h
  exact ⟨fn, tmps, assign, body, hy, hf, fun c cs hd => by obtain ⟨e, w', h1, h2⟩ := hR c cs hd; exact ⟨e, w', hr e w' h1, h2⟩⟩
theorem all_stopsU (F : Fence) (n : Nat) (h7 : F.fn 69) (hro : F.round = none) (hn : 1 ≤ n) (B n₀ : Nat) (Q : Nat) (v : Value) (m : Int) (zs : List Int) (hz : ∀ x ∈ zs, U64 x) (hreach : zs.length ≤ 100000) (w w₀ : World) (hB : B < w.heap.size) (hn₀ : n₀ ≤ w.heap.size) (hw₀ : Below n₀ w₀ w) (hz₀ : w₀.heap.size = n₀)
    (hc : w.cell? ⟨B, 0, none⟩ = some (.pointer (some ⟨Q, 0, none⟩))) (hS : QAt 101 w₀ Q v zs m) :
    SeqStopsK F n Try.prog 69 #[.pointer (some ⟨B, 0, none⟩)] (fun x : UT => #[Value.int .u64 x.1]) (Below n₀) (fun ys => ys.map Subtype.val = zs) (fun pre => pre.map Subtype.val <+: zs) zs.length w := fun l J Jx W hW _ _ hY h0 => by
  have hc' := (hW.cell (p := ⟨B, 0, none⟩) hB).trans hc
  subst hz₀
  have hb0 : Below w₀.heap.size w₀ W := hw₀.trans (hW.mono hn₀)
  have hQ := hS.later hb0
  obtain ⟨q, c, rfl, hI, _⟩ := hQ.row.form
  have hmem : ∀ us : List UT, us.map Subtype.val = zs → ∃ us : List UT, us.map Subtype.val = zs := fun us h => ⟨us, h⟩
  by_cases hp : 0 < zs.length
  · obtain ⟨b, off, rfl, hcs⟩ := hI.cells hp
    refine (all1_in F n h7 hro hn l B Q w₀.heap.size b off zs.length c zs rfl (by omega) (hS.row.lt rfl) (fun pre V => ∃ us : List UT, us.map Subtype.val = pre ∧ J us V) (fun pre V => ∃ us : List UT, us.map Subtype.val = pre ∧ Jx us V) ?_ W hc' hQ.c0 hcs ⟨[], rfl, h0⟩).mono ?_
    · rintro pre x V hx ⟨us, rfl, hj⟩ hlen
      refine yield_mono (hY us ⟨x, hz x hx⟩ V hj (by simpa using hlen)) ?_
      rintro e V' (⟨he, h1, h2⟩ | ⟨he, h1⟩)
      · exact .inl ⟨he, ⟨us ++ [⟨x, hz x hx⟩], by simp, h1⟩, h2⟩
      · exact .inr ⟨he, us ++ [⟨x, hz x hx⟩], by simp, h1⟩
    · rintro e V ⟨he, (⟨ys, rfl, us, h1, h2⟩ | ⟨pre, hpre, us, h1, h2⟩)⟩
      · exact ⟨he, .inl ⟨us, h1, h2⟩⟩
      · exact ⟨he, .inr ⟨us, by show us.map Subtype.val <+: zs; rw [h1]; exact hpre, h2⟩⟩
  · obtain rfl : zs = [] := List.eq_nil_of_length_eq_zero (by omega)
    exact (all1_zero_in F n h7 hro l B Q q c (fun _ V => J [] V) W hc' hQ.c0 h0).mono fun e W' ⟨he, hj⟩ => ⟨he, .inl ⟨[], rfl, hj⟩⟩

theorem boxed_far {W W' : World} {b : Nat} {t : TypeId} {u : Value} {S : Nat → Prop} (h : Boxed W b t u) (hk : Kept S W W') (hS : ¬ S b) : Boxed W' b t u := (hk.block b h.lt hS).trans h
theorem app_kept {W w1 : World} {B : Nat} {v v' : Value} {tmp : Obj} {ob : Option Nat} (hi : ∀ g, ob = some g → blk v = some g) (hgrow : (W.alloc tmp).grownBy w1 ob) : Kept (fun b => b = B ∨ blk v = some b) W (w1.setCell ⟨B, 0, none⟩ v') := by
  have h1 : Kept (fun b => blk v = some b) (W.alloc tmp) w1 := ⟨hgrow.os, hgrow.tape, hgrow.output, hgrow.size, fun b hb hn => hgrow.block b hb fun e => hn (hi b e.symm)⟩
  exact ((Kept.of_below (fun b => b = B ∨ blk v = some b) (below_alloc W tmp)).trans h1 (fun x _ e => .inr e)).trans (Kept.setCell B 0 v') (fun x _ e => .inl e)
/-- a claim's set, as the map has it -/
def f0 : Value → Value
  | .agg cs => cs.getD 0 undef
  | _ => undef
def sv (m : Int → Option Value) (t : Int) : Value := f0 ((m t).getD noC)
/-- what All hands back: two boxes, with the tickets and their sets -/
structure AllS (w w' : World) (bT bS : Nat) (vT vS : Value) (L : List En) (m : Int → Option Value) : Prop where
  below : Below w.heap.size w w'
  lT : w.heap.size ≤ bT
  lS : w.heap.size ≤ bS
  bxT : Boxed w' bT 22 vT
  bxS : Boxed w' bS 25 vS
  rT : w'.ownsRow w.heap.size 30 1 vT L.length (V64 (tix L))
  rS : w'.ownsRow w.heap.size 37 1 vS L.length ((tix L).map (sv m))
abbrev allV (bT bS : Nat) : Value := .func (.func 58) #[] #[.pointer (some ⟨bT, 0, none⟩), .pointer (some ⟨bS, 0, none⟩)]
set_option maxHeartbeats 2000000 in
set_option maxRecDepth 100000 in
theorem allL_nil (w : World) : Calls Try.prog 45 #[nilq] w fun e w' => ∃ bT bS, e = .returned (allV bT bS) ∧ AllS w w' bT bS nils nils [] (fun _ => none) := by
  go_enter Try.func45, Try.ntmps45
  go_wp2
  go_ret
  have b1 : Boxed (((w.alloc (.cells #[nilq] 24)).alloc (.cells #[nils] 22)).alloc (.cells #[nils] 25)) (w.heap.size + 1) 22 nils := by
    have := (Boxed.new (w.alloc (.cells #[nilq] 24)) 22 nils).alloc (.cells #[nils] 25)
    rwa [World.size_alloc] at this
  have b2 : Boxed (((w.alloc (.cells #[nilq] 24)).alloc (.cells #[nils] 22)).alloc (.cells #[nils] 25)) (w.heap.size + 1 + 1) 25 nils := by
    have := Boxed.new ((w.alloc (.cells #[nilq] 24)).alloc (.cells #[nils] 22)) 25 nils
    rwa [World.size_alloc, World.size_alloc] at this
  exact ⟨w.heap.size + 1, w.heap.size + 1 + 1, rfl, below_then (below_alloc _ _) (below_then (below_alloc _ _) (below_alloc _ _)), by omega, by omega, b1, b2, World.ownsRow_nil _ _ _ _, World.ownsRow_nil _ _ _ _⟩
section
variable {w : World} {F : Ft} {n : Nat} {a : Lk}
theorem sv_at (h : PL w F n a) {t : Int} (ht : U64 t) : ∃ p c, (F.m t).getD noC = cv (.slice p (ent a.L t).s.length c) (ent a.L t).d ∧ sv F.m t = .slice p (ent a.L t).s.length c ∧ Frm w (.slice p (ent a.L t).s.length c) (ent a.L t).s := by
  obtain ⟨p, c, e1, _, e3, _⟩ := h.cm.ent ht
  exact ⟨p, c, e1, by rw [sv, e1]; rfl, e3⟩
/-- what the rounds of All have made -/
def GotA (ws : Nat) (m : Int → Option Value) (pre : List UT) (W : World) : Prop := (∃ v, Boxed W (ws + 1) 22 v ∧ W.ownsRow ws 30 1 v pre.length (V64 (pre.map Subtype.val)) ∧ True) ∧ ∃ v, Boxed W (ws + 1 + 1) 25 v ∧ W.ownsRow ws 37 1 v pre.length ((pre.map Subtype.val).map (sv m)) ∧ True
set_option maxHeartbeats 2000000 in
set_option maxRecDepth 100000 in
theorem allL_at (h : PL w F n a) (hn : n ≤ 10000) : Calls Try.prog 45 #[qp F.Q] w fun e w' => ∃ bT bS vT vS, e = .returned (allV bT bS) ∧ AllS w w' bT bS vT vS a.L F.m := by
  obtain ⟨i0, hi, hz0, hz1, hz2⟩ := info_parts info26
  obtain ⟨i1, hi1, hy0, hy1, hy2⟩ := info_parts info_ints
  have hml : 10001 ≤ maxLen := by decide
  have HP : Hid (PL w F n a) := h
  have htl : (tix a.L).length ≤ n := by have := h.len; simpa [tix] using this
  have HTU : Hid (∀ x ∈ tix a.L, U64 x) := fun x hx => by
    obtain ⟨e, he, rfl⟩ := mem_tix.1 hx
    have h1 := h.ok.pos e he
    have h2 := h.ok.top e he
    have h3 := h.ok.lastU
    exact u64_small (by omega) (by omega)
  clear h
  refine (callsIn_wide (n := 9)).1 ?_
  refine callsIn_of_wp_marks Try.func45 rfl trivial ?_ rfl
  simp only [Try.ntmps45, List.size_toArray, List.length_cons, List.length_nil, Nat.reduceAdd, Nat.reduceSub, Array.replicate_succ, Array.replicate_zero, List.push_toArray, List.append_toArray, List.nil_append, List.cons_append]
  have c1 : (((w.alloc (.cells #[qp F.Q] 24)).alloc (.cells #[nils] 22)).alloc (.cells #[nils] 25)).cell? ⟨F.Q, 1, none⟩ = some (qp F.th) := (HP.out.later (below_then (below_alloc _ _) (below_then (below_alloc _ _) (below_alloc _ _)))).c 1
  gi_wp2_with (first | (refine ⟨trivial, ?_⟩; gi_at_call 54; refine (callsIn_wide.2 (all_is _ _)).mono ?_; rintro e w' ⟨rfl, rfl⟩))
  have bX := ((Boxed.new w 24 (qp F.Q)).alloc (.cells #[nils] 22)).alloc (.cells #[nils] 25) |>.alloc (.cells #[qp F.th] 80)
  have bT := ((Boxed.new (w.alloc (.cells #[qp F.Q] 24)) 22 nils).alloc (.cells #[nils] 25)).alloc (.cells #[qp F.th] 80)
  have bS := (Boxed.new ((w.alloc (.cells #[qp F.Q] 24)).alloc (.cells #[nils] 22)) 25 nils).alloc (.cells #[qp F.th] 80)
  have bB := Boxed.new (((w.alloc (.cells #[qp F.Q] 24)).alloc (.cells #[nils] 22)).alloc (.cells #[nils] 25)) 80 (qp F.th)
  simp only [World.size_alloc] at bX bT bS bB
  have hB0 : Below w.heap.size w ((((w.alloc (.cells #[qp F.Q] 24)).alloc (.cells #[nils] 22)).alloc (.cells #[nils] 25)).alloc (.cells #[qp F.th] 80)) := below_then (below_alloc _ _) (below_then (below_alloc _ _) (below_then (below_alloc _ _) (below_alloc _ _)))
  have hsz : ((((w.alloc (.cells #[qp F.Q] 24)).alloc (.cells #[nils] 22)).alloc (.cells #[nils] 25)).alloc (.cells #[qp F.th] 80)).heap.size = w.heap.size + 4 := by simp
  obtain ⟨W0, hW0⟩ : ∃ W0, ((((w.alloc (.cells #[qp F.Q] 24)).alloc (.cells #[nils] 22)).alloc (.cells #[nils] 25)).alloc (.cells #[qp F.th] 80)) = W0 := ⟨_, rfl⟩
  rw [hW0] at bX bT bS bB hB0 hsz ⊢
  clear hW0 c1
  refine wpIn_rangeFunc_ownG (F := Fence.wide) (n := 9) (P := Try.prog) rfl (by decide) (gf := 69) (lb := #[.pointer (some ⟨w.heap.size + 1 + 1 + 1, 0, none⟩)]) rfl trivial (enters_of Try.func69 (by kernel_rfl) rfl)
    (all_stopsU Fence.wide (9 - 1) trivial rfl (by decide) (w.heap.size + 1 + 1 + 1) w.heap.size F.th F.tv a.last (tix a.L) HTU.out (by omega) W0 w (by omega) (by omega) hB0 rfl bB.cell HP.out.lt') belowK_t (belowK_b (by omega)) (Below.refl _ _) (fun _ => rfl)
    (fun pre W => GotA w.heap.size F.m pre W ∧ (Below w.heap.size w W ∧ Boxed W w.heap.size 24 (qp F.Q))) (fun c pre W => False)
    ?hI (fun c => ownFrom_pure _ _)
    ⟨⟨⟨_, bT, World.ownsRow_nil _ _ _ _, trivial⟩, _, bS, World.ownsRow_nil _ _ _ _, trivial⟩, hB0, bX⟩
    (fun x => { tmps := #[qp F.Q, .pointer (some ⟨w.heap.size, 0, none⟩), .nilFunc, .pointer (some ⟨w.heap.size + 1, 0, none⟩), .pointer (some ⟨w.heap.size + 1 + 1, 0, none⟩), .int .u64 x.1, qp F.Q, .bool true, qp F.Q, .pointer (some ⟨F.Q, 0, none⟩), .pointer (some ⟨F.Q, 1, none⟩), qp F.th, seqV (w.heap.size + 1 + 1 + 1), .int .u64 x.1, undef, undef, undef, undef, undef, undef, undef, undef, undef, undef, undef, undef, undef, undef, undef], defers := [] }) ?assign ?body ?done ?stop
  case hI =>
    refine OwnFrom.and (OwnFrom.and (Own.from (holdsRow_own w.heap.size (w.heap.size + 1) 22 30 1 (fun pre : List UT => pre.length) (fun pre : List UT => V64 (pre.map Subtype.val)) (fun _ _ => True)) _) (Own.from (holdsRow_own w.heap.size (w.heap.size + 1 + 1) 25 37 1 (fun pre : List UT => pre.length) (fun pre : List UT => (pre.map Subtype.val).map (sv F.m)) (fun _ _ => True)) _)) (OwnFrom.and (ownFrom_below (Nat.le_refl _) (by omega)) (own_box _ _ _ _))
  case assign =>
    intro l x W K hK
    gi_wp2
    exact hK
  case body =>
    rintro l pre x W ⟨⟨⟨vT, hvT, hrT, _⟩, vS, hvS, hrS, _⟩, hB, hX⟩ hlt
    have hle := hB.size
    have hlen : pre.length < 10000 := by omega
    obtain ⟨pT, cT, rfl, _, _, _, hiT⟩ := own_shape hrT
    obtain ⟨pS, cS, rfl, _, _, _, hiS⟩ := own_shape hrS
    have hc := hvT.cell
    have HR : Hid (Boxed W (w.heap.size + 1 + 1) 25 (.slice pS pre.length cS) ∧ W.ownsRow w.heap.size 37 1 (.slice pS pre.length cS) pre.length ((pre.map Subtype.val).map (sv F.m)) ∧ Boxed W w.heap.size 24 (qp F.Q)) := ⟨hvS, hrS, hX⟩
    have HiT : Hid (∀ g, (Value.slice pT pre.length cT).ownBlock = some g ↔ blk (.slice pT pre.length cT) = some g) := hiT
    have HkT : Hid (∀ g, blk (.slice pT pre.length cT) = some g → kd W g = 30) := fun g hg => ((own_shape hrT).choose_spec.choose_spec.2.2.2.1 g hg).2.2
    clear hvS hrS hX hiT hiS
    gi_wp2_with (gi_at_builtin; refine wpListIn_append_own _ rfl _ _ 22 rfl w.heap.size 30 i0 (.int .u64 0) 1 8 Try.underlying22 hi hz0 hz1 hz2 rfl (by decide) _ _ _ rfl (hrT.alloc _) ⟨W.heap.size, 0, none⟩ 1 1 [.int .u64 x.1] rfl rfl (cell_one_new _ _ _) (by simp [Value.oneCell']) (by omega) (by omega) (by simp; omega) ?_; intro v' w1 hown' hgrow _; obtain ⟨g', cap', rfl⟩ := ownsRow_succ hown'; obtain ⟨hv1, hv2, hr2, hk2, hb2⟩ := hvT.appended (by decide) hrT hle (by omega) hown' hgrow; have hc1 := hv1.cell; have hf1 := hv1.frozen; have hc2 := hv2.cell)
    have HT6 : Hid (Boxed (w1.setCell ⟨w.heap.size + 1, 0, none⟩ (.slice (some ⟨g', 0, none⟩) (pre.length + 1) cap')) (w.heap.size + 1) 22 (.slice (some ⟨g', 0, none⟩) (pre.length + 1) cap') ∧ (w1.setCell ⟨w.heap.size + 1, 0, none⟩ (.slice (some ⟨g', 0, none⟩) (pre.length + 1) cap')).ownsRow w.heap.size 30 1 (.slice (some ⟨g', 0, none⟩) (pre.length + 1) cap') (pre.length + 1) (V64 ((pre ++ [x]).map Subtype.val)) ∧ KeepsOthers W (w1.setCell ⟨w.heap.size + 1, 0, none⟩ (.slice (some ⟨g', 0, none⟩) (pre.length + 1) cap')) ∧ Below w.heap.size W (w1.setCell ⟨w.heap.size + 1, 0, none⟩ (.slice (some ⟨g', 0, none⟩) (pre.length + 1) cap'))) := ⟨hv2, by rw [show V64 ((pre ++ [x]).map Subtype.val) = V64 (pre.map Subtype.val) ++ [Value.int .u64 x.1] by simp [V64]]; exact hr2, hk2, hb2⟩
    have hkT : Kept (fun b => b = w.heap.size + 1 ∨ blk (.slice pT pre.length cT) = some b) W (w1.setCell ⟨w.heap.size + 1, 0, none⟩ (.slice (some ⟨g', 0, none⟩) (pre.length + 1) cap')) := app_kept (fun g e => (HiT.out g).1 e) hgrow
    have HR6 : Hid (Boxed (w1.setCell ⟨w.heap.size + 1, 0, none⟩ (.slice (some ⟨g', 0, none⟩) (pre.length + 1) cap')) (w.heap.size + 1 + 1) 25 (.slice pS pre.length cS) ∧ (w1.setCell ⟨w.heap.size + 1, 0, none⟩ (.slice (some ⟨g', 0, none⟩) (pre.length + 1) cap')).ownsRow w.heap.size 37 1 (.slice pS pre.length cS) pre.length ((pre.map Subtype.val).map (sv F.m)) ∧ Boxed (w1.setCell ⟨w.heap.size + 1, 0, none⟩ (.slice (some ⟨g', 0, none⟩) (pre.length + 1) cap')) w.heap.size 24 (qp F.Q)) := by
      have n1 : ∀ b k, kd W b = k → k ≠ 30 → b ≠ w.heap.size + 1 → ¬ (b = w.heap.size + 1 ∨ blk (.slice pT pre.length cT) = some b) := fun b k hk h1 h2 e => by
        rcases e with e | e
        · exact h2 e
        · rw [HkT.out b e] at hk; exact h1 hk.symm
      refine ⟨boxed_far HR.out.1 hkT (n1 _ _ (kd_cells HR.out.1) (by decide) (by omega)), Own.kept' HR.out.2.1 (fun g hg hl hgk => hkT.block g hl (n1 _ _ hgk (by decide) (fun e => ?_))), boxed_far HR.out.2.2 hkT (n1 _ _ (kd_cells HR.out.2.2) (by decide) (by omega))⟩
      rw [e, kd_cells hvT] at hgk; cases hgk
    clear hv1 hv2 hr2 hk2 hb2 hown' hgrow hc1 hf1 hc2 hkT hvT hrT hc HR HiT HkT
    obtain ⟨W6, hW6⟩ : ∃ y, w1.setCell ⟨w.heap.size + 1, 0, none⟩ (.slice (some ⟨g', 0, none⟩) (pre.length + 1) cap') = y := ⟨_, rfl⟩
    rw [hW6] at HT6 HR6 ⊢
    clear hW6
    have hbd : Below W6.heap.size W6 W6.drew := (Below.refl _ W6).drew
    have HBd : Hid (Below w.heap.size w W6.drew) := (hB.trans HT6.out.2.2.2).trans (hbd.mono (by have := HT6.out.2.2.2.size; omega))
    obtain ⟨p, c, em, es, -⟩ := sv_at HP.out x.2
    have hlk := ((HP.out.later HBd.out).cm.mp).run_get x.2
    rw [em] at hlk
    have ks : W6.drew.cell? ⟨w.heap.size + 1 + 1, 0, none⟩ = some (.slice pS pre.length cS) := HR6.out.1.cell
    have kl : W6.drew.cell? ⟨w.heap.size, 0, none⟩ = some (qp F.Q) := HR6.out.2.2.cell
    have k2 : W6.drew.cell? ⟨F.Q, 2, none⟩ = some (.map (some F.mb)) := (HP.out.later HBd.out).c 2
    have hvS : Boxed W6.drew (w.heap.size + 1 + 1) 25 (.slice pS pre.length cS) := HR6.out.1
    have hrS : W6.drew.ownsRow w.heap.size 37 1 (.slice pS pre.length cS) pre.length ((pre.map Subtype.val).map (sv F.m)) := B.own_later HR6.out.2.1 hbd
    have hle6 : w.heap.size ≤ W6.drew.heap.size := HBd.out.size
    have hle66 : w.heap.size ≤ W6.heap.size := hle6
    obtain ⟨v2, w2, hap, r2, g2, -⟩ := run_append_own (P := Try.prog) (W6.drew.alloc (.cells #[.slice p (ent a.L x.1).s.length c] 37)) w.heap.size 25 25 37 i1 nils 1 24 Try.underlying25 hi1 hy0 hy1 hy2 rfl (by decide) _ _ _ (hrS.alloc _) ⟨W6.drew.heap.size, 0, none⟩ 1 1 [.slice p (ent a.L x.1).s.length c] rfl (cell_one_new _ _ _) (by simp [Value.oneCell']) (by omega) (by omega) (by simp; omega)
    obtain ⟨g2', cap2, rfl⟩ := ownsRow_succ r2
    obtain ⟨hv1, hv2, hr2, hk2, hb2⟩ := hvS.appended (by decide) hrS hle6 (by omega) r2 g2
    obtain ⟨_, _, _, _, _, hgS, hiS⟩ := own_shape hrS
    have hkS : Kept (fun b => b = w.heap.size + 1 + 1 ∨ blk (.slice pS pre.length cS) = some b) W6.drew (w2.setCell ⟨w.heap.size + 1 + 1, 0, none⟩ (.slice (some ⟨g2', 0, none⟩) (pre.length + 1) cap2)) := app_kept (fun g e => (hiS g).1 e) g2
    have n2 : ∀ b k, kd W6.drew b = k → k ≠ 37 → b ≠ w.heap.size + 1 + 1 → ¬ (b = w.heap.size + 1 + 1 ∨ blk (.slice pS pre.length cS) = some b) := fun b k hk h1 h2 e => by
      rcases e with e | e
      · exact h2 e
      · rw [(hgS b e).2.2] at hk; exact h1 hk.symm
    have hvT6 : Boxed W6.drew (w.heap.size + 1) 22 (.slice (some ⟨g', 0, none⟩) (pre.length + 1) cap') := HT6.out.1
    have HF : Hid (KeepsFrom W0.heap.size W (w2.setCell ⟨w.heap.size + 1 + 1, 0, none⟩ (.slice (some ⟨g2', 0, none⟩) (pre.length + 1) cap2)) ∧ Below w.heap.size W (w2.setCell ⟨w.heap.size + 1 + 1, 0, none⟩ (.slice (some ⟨g2', 0, none⟩) (pre.length + 1) cap2)) ∧ (GotA w.heap.size F.m (pre ++ [x]) (w2.setCell ⟨w.heap.size + 1 + 1, 0, none⟩ (.slice (some ⟨g2', 0, none⟩) (pre.length + 1) cap2)) ∧ (Below w.heap.size w (w2.setCell ⟨w.heap.size + 1 + 1, 0, none⟩ (.slice (some ⟨g2', 0, none⟩) (pre.length + 1) cap2)) ∧ Boxed (w2.setCell ⟨w.heap.size + 1 + 1, 0, none⟩ (.slice (some ⟨g2', 0, none⟩) (pre.length + 1) cap2)) w.heap.size 24 (qp F.Q)))) := by
      have hs6 := HT6.out.2.2.2.size
      have hbW : Below w.heap.size W (w2.setCell ⟨w.heap.size + 1 + 1, 0, none⟩ (.slice (some ⟨g2', 0, none⟩) (pre.length + 1) cap2)) := (HT6.out.2.2.2.trans (hbd.mono (by omega))).trans hb2
      refine ⟨((HT6.out.2.2.1.from _).trans (keeps_of_below hbd _)).trans (hk2.from _), hbW, ⟨⟨_, boxed_far hvT6 hkS (n2 _ _ (kd_cells hvT6) (by decide) (by omega)), ?_, trivial⟩, _, hv2, ?_, trivial⟩, hB.trans hbW, ?_⟩
      · rw [show (pre ++ [x]).length = pre.length + 1 by simp]
        refine Own.kept' (B.own_later HT6.out.2.1 hbd) (fun g hg hl hgk => hkS.block g hl (n2 _ _ hgk (by decide) (fun e => ?_)))
        rw [e, kd_cells hvS] at hgk; cases hgk
      · rw [show (pre ++ [x]).length = pre.length + 1 by simp, show ((pre ++ [x]).map Subtype.val).map (sv F.m) = (pre.map Subtype.val).map (sv F.m) ++ [.slice p (ent a.L x.1).s.length c] by simp [es]]
        exact hr2
      · exact boxed_far (show Boxed W6.drew w.heap.size 24 (qp F.Q) from HR6.out.2.2) hkS (n2 _ _ (kd_cells (show W6.drew.heap[w.heap.size]? = some (.cells #[qp F.Q] 24 (0, 0)) from HR6.out.2.2)) (by decide) (by omega))
    have kst := hv1.cell
    have fst := hv1.frozen
    have ks2 : (W6.drew.alloc (.cells #[.slice p (ent a.L x.1).s.length c] 37)).cell? ⟨w.heap.size + 1 + 1, 0, none⟩ = some (.slice pS pre.length cS) := (hvS.alloc _).cell
    clear hv1 hv2 hr2 hk2 hb2 r2 g2 hkS n2 hgS hiS hvT6 hvS hrS
    exact all_region W6 7 w.heap.size (w.heap.size + 1 + 1) F.Q F.mb x.1 p (ent a.L x.1).s.length c (ent a.L x.1).d (.slice pS pre.length cS) (some ⟨g2', 0, none⟩) (pre.length + 1) cap2 _ _ _ _ _ _ _ _ _ _ _ _ _ _ _ _ W6.drew w2 rfl kl ks ks2 k2 hlk hap kst fst HF.out
  case done =>
    rintro D ys W hD hSt ⟨⟨⟨vT, hvT, hrT, _⟩, vS, hvS, hrS, _⟩, hB, hX⟩ hK
    have HZ : Hid (AllS w (W.putObj D (.deferred none)) (w.heap.size + 1) (w.heap.size + 1 + 1) vT vS a.L F.m) := by
      have hl : ys.length = a.L.length := by have := congrArg List.length hSt; simpa [tix] using this
      rw [hl, hSt] at hrT hrS
      refine ⟨hB.trans (belowK_b (w := w) (Nat.le_refl _) _ D _ _ (by omega) hK rfl rfl), by omega, by omega, ?_, ?_, ownsRow_putObj hrT (.deferred none) hK rfl, ownsRow_putObj hrS (.deferred none) hK rfl⟩
      · exact (World.putObj_heap_other (by omega)).trans hvT
      · exact (World.putObj_heap_other (by omega)).trans hvS
    clear hvT hrT hvS hrS hB hX hSt
    gi_wp2
    refine ⟨by simp, .inl ⟨_, _, rfl, run_takeDeferred hK, ?_⟩⟩
    exact ⟨_, by simp [results, Try.results45, go_sem], _, _, _, _, rfl, HZ.out⟩
  case stop =>
    rintro D c pre W hD hpre hf hK
    exact hf.elim
end
end Go.Proofs.Ytkffmglcllhbmaa
