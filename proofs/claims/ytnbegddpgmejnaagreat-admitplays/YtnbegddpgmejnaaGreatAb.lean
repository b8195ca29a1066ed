/-
  Layer 13: the line gone through: standing.
-/
import Derived.Test.YtnbegddpgmejnaaGreatAw
namespace Go.Proofs.YtnbegddpgmejnaaGreat
open Go.RowKit


open Go.Shelf
attribute [local go_sem] Oper.semAt_some
section
variable {F : Fence} {n : Nat} {P : Program} {ops : Array Oper} {rest : List Oper} {o : Oper} {a : Act} {w w' : World} {Q : Exit → Act → World → Prop}
theorem grown_of_below {V V' : World} (h : Below V.heap.size V V') : V.grownBy V' none := ⟨h.os, h.tape, h.output, h.size, fun k hk _ => h.block k hk⟩
theorem keeps_of_below {V V' : World} (h : Below V.heap.size V V') (B : Nat) : KeepsFrom B V V' := ⟨h.size, fun k _ _ hk _ => (h.block k (Array.getElem?_eq_some_iff.1 hk).1).trans hk⟩
theorem own_below {β : Type} {B : Nat} {J : β → World → Prop} (h : OwnFrom B J) {s : β} {V V' : World} (hs : J s V) (hb : Below V.heap.size V V') : J s V' := h s V V' none hs (grown_of_below hb) (fun _ e => by cases e)
theorem own_wide {β : Type} {B C : Nat} {J : β → World → Prop} (h : OwnFrom B J) (hb : B ≤ C) : OwnFrom C J := fun s V V' row hs hg hr => h s V V' row hs hg fun r e => ⟨Nat.le_trans hb (hr r e).1, (hr r e).2⟩
theorem own_box {β : Type} (B k : Nat) (t : TypeId) (v : Value) : OwnFrom B (fun (_ : β) W => Boxed W k t v) := Own.from (boxed_own k t (fun _ => v)) B
end
abbrev UT := { x : Int // L.U64 x }
theorem yield_mono {F : Fence} {m : Nat} {P : Program} {l : Nat} {args : Array Value} {W : World} {R R' : Ending → World → Prop} (h : YieldAt F m P l args W R) (hr : ∀ e w, R e w → R' e w) : YieldAt F m P l args W R' := by
  obtain ⟨fn, tmps, assign, body, hy, hf, hR⟩ := h
  exact ⟨fn, tmps, assign, body, hy, hf, fun c cs hd => by obtain ⟨e, w', h1, h2⟩ := hR c cs hd; exact ⟨e, w', hr e w' h1, h2⟩⟩
/-- what All gives: as all_stops, each ticket a uint64 -/
theorem all_stopsU (F : Fence) (n : Nat) (h7 : F.fn 79) (hro : F.round = none) (hn : 1 ≤ n) (B n₀ : Nat) (Q : Nat) (v : Value) (m : Int) (zs : List Int) (hz : ∀ x ∈ zs, L.U64 x) (hreach : zs.length ≤ 100000) (w w₀ : World) (hB : B < w.heap.size) (hn₀ : n₀ ≤ w.heap.size) (hw₀ : Below n₀ w₀ w) (hz₀ : w₀.heap.size = n₀)
    (hc : w.cell? ⟨B, 0, none⟩ = some (.pointer (some ⟨Q, 0, none⟩))) (hS : QAt 64 w₀ Q v zs m) :
    SeqStopsK F n Tryz.prog 79 #[.pointer (some ⟨B, 0, none⟩)] (fun x : UT => #[Value.int .u64 x.1]) (Below n₀) (fun ys => ys.map Subtype.val = zs) (fun pre => pre.map Subtype.val <+: zs) zs.length w := fun l J Jx W hW _ _ hY h0 => by
  have hc' := (hW.cell (p := ⟨B, 0, none⟩) hB).trans hc
  subst hz₀
  have hb0 : Below w₀.heap.size w₀ W := hw₀.trans (hW.mono hn₀)
  have hQ := hS.later hb0
  obtain ⟨q, c, rfl, hI, _⟩ := hQ.row.form
  have hmem : ∀ us : List UT, us.map Subtype.val = zs → ∃ us : List UT, us.map Subtype.val = zs := fun us h => ⟨us, h⟩
  by_cases hp : 0 < zs.length
  · obtain ⟨b, off, rfl, hcs⟩ := hI.cells hp
    refine (all1_in F n h7 hro hn l B Q w₀.heap.size b off zs.length c zs rfl (by omega) (hS.row.lt rfl) (fun pre V => ∃ us : List UT, us.map Subtype.val = pre ∧ J us V) (fun pre V => ∃ us : List UT, us.map Subtype.val = pre ∧ Jx us V) ?_ W hc' hQ.c0 hcs ⟨[], rfl, h0⟩).mono ?_
    · rintro pre x V hx ⟨us, rfl, hj⟩ hlen
      refine yield_mono (hY us ⟨x, hz x hx⟩ V hj (by simpa using hlen)) ?_
      rintro e V' (⟨he, h1, h2⟩ | ⟨he, h1⟩)
      · exact .inl ⟨he, ⟨us ++ [⟨x, hz x hx⟩], by simp, h1⟩, h2⟩
      · exact .inr ⟨he, us ++ [⟨x, hz x hx⟩], by simp, h1⟩
    · rintro e V ⟨he, (⟨ys, rfl, us, h1, h2⟩ | ⟨pre, hpre, us, h1, h2⟩)⟩
      · exact ⟨he, .inl ⟨us, h1, h2⟩⟩
      · exact ⟨he, .inr ⟨us, by show us.map Subtype.val <+: zs; rw [h1]; exact hpre, h2⟩⟩
  · obtain rfl : zs = [] := List.eq_nil_of_length_eq_zero (by omega)
    exact (all1_zero_in F n h7 hro l B Q q c (fun _ V => J [] V) W hc' hQ.c0 h0).mono fun e W' ⟨he, hj⟩ => ⟨he, .inl ⟨[], rfl, hj⟩⟩

/-- what the line's iterator gives: a ticket, a list -/
structure TV where
  t : Int
  p : Option Addr
  n : Nat
  c : Nat
abbrev TV.val (x : TV) : Value := .slice x.p x.n x.c
abbrev TV.two (x : TV) : Int × Value := (x.t, x.val)
/-- all that it gives -/
def its (m : Int → Option Value) (zs : List Int) : List (Int × Value) := zs.map fun t => (t, (m t).getD nils)
/-- what a round over the line keeps: what lay below, and the boxes of three kinds that the iterators have laid -/
structure KP (n₀ : Nat) (W W' : World) : Prop where
  low : Below n₀ W W'
  typ : ∀ k v t, (t = 26 ∨ t = 61 ∨ t = 117) → Boxed W k t v → Boxed W' k t v
theorem KP.trans {n₀ : Nat} {A B C : World} (h : KP n₀ A B) (k : KP n₀ B C) : KP n₀ A C := ⟨h.low.trans k.low, fun i v t ht hb => k.typ i v t ht (h.typ i v t ht hb)⟩
theorem KP.putObj {n₀ : Nat} (W : World) (l : Nat) (o o' : Obj) (hl : n₀ ≤ l) (h : W.heap[l]? = some o) (hc : o.isCells = false) : KP n₀ W (W.putObj l o') := by
  refine ⟨⟨rfl, rfl, rfl, by simp, fun k hk => World.putObj_heap_other (by omega)⟩, fun k v t _ hb => ?_⟩
  refine (World.putObj_heap_other ?_).trans hb
  rintro rfl
  have hb' : W.heap[k]? = some (.cells #[v] t (0, 0)) := hb
  rw [hb'] at h
  cases h
  cases hc
theorem KP.below {n₀ : Nat} {W W' : World} (h : Below W.heap.size W W') (hn : n₀ ≤ W.heap.size) : KP n₀ W W' := ⟨h.mono hn, fun k _ _ _ hb => (h.block k hb.lt).trans hb⟩
theorem SliceLike (m : Int → Option Value) (h : ∀ t v, m t = some v → ∃ p n c, v = .slice p n c) (t : Int) : ∃ p n c, (m t).getD nils = .slice p n c := by
  cases e : m t with
  | none => exact ⟨none, 0, 0, rfl⟩
  | some v => exact h t v e

set_option maxRecDepth 100000 in
set_option maxHeartbeats 4000000 in
theorem stand1_in (n : Nat) (hn : 3 ≤ n) {w0 w : World} {F : Ft} {k : Nat} {a : Ad} (h : PL w0 F k a) (hN : a.next ≤ 1000) (m : Int → Option Value) (hm : VMp w0 F.mb k m) (hms : ∀ t v, m t = some v → ∃ p n c, v = .slice p n c) (Bl : Nat) (hb : Below w0.heap.size w0 w) (hl : Boxed w Bl 26 (qp F.Q)) :
    SeqIn Fence.wide n Tryz.prog 77 #[.pointer (some ⟨Bl, 0, none⟩)] (fun x : TV => #[.int .u64 x.t, x.val]) (KP w0.heap.size) (fun xs => xs.map TV.two = its m (wt a.W)) (fun pre => pre.map TV.two <+: its m (wt a.W)) (wt a.W).length w := by
  intro l J Jx W hW hJ hJx hY h0
  have hmo : Tryz.prog.follows Departure.mixedOrders = true := by kernel_rfl
  have h1n : 1 ≤ n := by omega
  have hsz0 := hb.size
  have hsz1 := hW.size
  have H : Hid (PL w0 F k a) := h
  have HM : Hid (VMp w0 F.mb k m) := hm
  have HS : Hid (∀ t, ∃ p n c, (m t).getD nils = .slice p n c) := SliceLike m hms
  have HBW : Hid (Below w0.heap.size w0 W) := hb.trans (hW.mono hsz0)
  have HlW : Hid (Boxed W Bl 26 (qp F.Q)) := (hW.block Bl hl.lt).trans hl
  have hU : Hid (∀ x ∈ wt a.W, L.U64 x) := fun x hx => by
    obtain ⟨y, hy, rfl⟩ := List.mem_map.1 hx
    have h1 := h.ok.win y hy
    have h2 := h.ok.got0
    have e1 : IntKind.u64.min = 0 := by decide
    have e2 : IntKind.u64.max = 18446744073709551615 := by decide
    simp only [L.U64, Lit.wf, e1, e2, Bool.and_eq_true, decide_eq_true_eq]
    omega
  have hlen : (wt a.W).length ≤ 1000 := by have := h.ok.wlen; simp only [wt, List.length_map]; omega
  clear h hm hms hb hl
  refine callsIn_of_wp_marks Tryz.func77 rfl trivial ?_ rfl
  simp only [Tryz.ntmps77, List.size_toArray, List.length_cons, List.length_nil, Nat.reduceAdd, Nat.reduceSub, Array.replicate_succ, Array.replicate_zero, List.push_toArray, List.append_toArray, List.nil_append, List.cons_append]
  have HlA : Hid (Boxed (W.alloc (.cells #[.func (.yield l) #[] #[]] 117)) Bl 26 (qp F.Q)) := HlW.out.alloc _
  have HyA : Hid (Boxed (W.alloc (.cells #[.func (.yield l) #[] #[]] 117)) W.heap.size 117 (.func (.yield l) #[] #[])) := Boxed.new W 117 _
  have HBA : Hid (Below w0.heap.size w0 (W.alloc (.cells #[.func (.yield l) #[] #[]] 117))) := HBW.out.alloc (by omega) _
  have HJA : Hid (J [] (W.alloc (.cells #[.func (.yield l) #[] #[]] 117))) := own_below hJ h0 (below_alloc W _)
  have hsA : (W.alloc (.cells #[.func (.yield l) #[] #[]] 117)).heap.size = W.heap.size + 1 := by simp
  obtain ⟨WA, hWA⟩ : ∃ x, W.alloc (.cells #[.func (.yield l) #[] #[]] 117) = x := ⟨_, rfl⟩
  rw [hWA] at HlA HyA HBA HJA hsA
  have cl := HlA.out.cell
  have c6 : WA.cell? ⟨F.Q, 6, none⟩ = some (qp F.q1) := (H.out.later HBA.out).c 6
  gi_wp2_with (first | (rw [hWA]; skip) | (refine ⟨trivial, ?_⟩; gi_at_call 68; refine (callsIn_wide.2 (all_is _ _)).mono ?_; rintro e w' ⟨rfl, rfl⟩))
  clear hWA cl c6
  have bB : Hid (Boxed (WA.alloc (.cells #[qp F.q1] 61)) WA.heap.size 61 (qp F.q1)) := Boxed.new WA 61 _
  have hb2 := below_alloc WA (.cells #[qp F.q1] 61)
  have bL : Hid (Boxed (WA.alloc (.cells #[qp F.q1] 61)) Bl 26 (qp F.Q)) := HlA.out.alloc _
  have bY : Hid (Boxed (WA.alloc (.cells #[qp F.q1] 61)) W.heap.size 117 (.func (.yield l) #[] #[])) := HyA.out.alloc _
  have hJ2 : Hid (J [] (WA.alloc (.cells #[qp F.q1] 61))) := own_below hJ HJA.out hb2
  have hB2 : Hid (Below w0.heap.size w0 (WA.alloc (.cells #[qp F.q1] 61))) := HBA.out.trans (hb2.mono HBA.out.size)
  have hs2 : (WA.alloc (.cells #[qp F.q1] 61)).heap.size = W.heap.size + 2 := by simp; exact hsA
  clear hb2 HlA HyA HBA HJA
  obtain ⟨W2, hW2⟩ : ∃ x, WA.alloc (.cells #[qp F.q1] 61) = x := ⟨_, rfl⟩
  rw [hW2] at bB bL bY hJ2 hB2 hs2 ⊢
  rw [hsA] at bB
  clear hW2
  refine wpIn_rangeFunc_ownG (F := Fence.wide) (n := n) (P := Tryz.prog) rfl h1n (gf := 79) (lb := #[.pointer (some ⟨W.heap.size + 1, 0, none⟩)]) rfl trivial (enters_of Tryz.func79 (by kernel_rfl) rfl)
    (all_stopsU Fence.wide (n - 1) trivial rfl (by omega) (W.heap.size + 1) w0.heap.size F.q1 F.v1 (a.next - 1) (wt a.W) hU.out (by omega) W2 w0 (by omega) (by omega) hB2.out rfl bB.out.cell H.out.l1) belowK_t (belowK_b (by omega)) (Below.refl _ _) (fun _ => rfl)
    (fun pre V => (∃ xs : List TV, xs.map TV.two = its m (pre.map Subtype.val) ∧ J xs V) ∧ (Below w0.heap.size w0 V ∧ (Boxed V Bl 26 (qp F.Q) ∧ Boxed V W.heap.size 117 (.func (.yield l) #[] #[]))))
    (fun c pre V => c = .ret ∧ ∃ xs : List TV, xs.map TV.two = its m (pre.map Subtype.val) ∧ Jx xs V)
    ?hI ?hIx ⟨⟨[], rfl, hJ2.out⟩, hB2.out, bL.out, bY.out⟩
    (fun x => { tmps := #[.func (.yield l) #[] #[], .pointer (some ⟨Bl, 0, none⟩), .pointer (some ⟨W.heap.size, 0, none⟩), .int .u64 x.1, qp F.Q, .bool false, qp F.Q, qp F.Q, .pointer (some ⟨F.Q, 6, none⟩), qp F.q1, seqV (W.heap.size + 1), .int .u64 x.1, undef, undef, undef, undef, undef, undef, undef, undef, undef, undef], defers := [] }) ?assign ?body ?done ?stop
  case hI =>
    refine OwnFrom.and (fun s V V' row hs hg hr => ?_) (OwnFrom.and (ownFrom_below (Nat.le_refl _) (by omega)) (OwnFrom.and (own_box _ _ _ _) (own_box _ _ _ _)))
    obtain ⟨xs, h1, h2⟩ := hs
    exact ⟨xs, h1, own_wide hJ (by omega) xs V V' row h2 hg hr⟩
  case hIx =>
    rintro c s V V' row ⟨hc, xs, h1, h2⟩ hg hr
    exact ⟨hc, xs, h1, own_wide hJx (by omega) _ V V' row h2 hg hr⟩
  case assign =>
    intro l1 x V K hK
    gi_wp2
    exact hK
  case body =>
    rintro l1 pre u V ⟨⟨xs, hrd, hJs⟩, hBV, cL, cY⟩ hlt
    have hlen2 : xs.length = pre.length := by have := congrArg List.length hrd; simpa [its] using this
    have HRD : Hid (xs.map TV.two = its m (pre.map Subtype.val)) := hrd
    have HBV : Hid (Below w0.heap.size w0 V) := hBV
    have HcL : Hid (Boxed V Bl 26 (qp F.Q)) := cL
    have HcY : Hid (Boxed V W.heap.size 117 (.func (.yield l) #[] #[])) := cY
    obtain ⟨p, nn, cc, hv⟩ := HS.out u.1
    have kl : V.drew.cell? ⟨Bl, 0, none⟩ = some (qp F.Q) := cL.cell
    have ky : V.drew.cell? ⟨W.heap.size, 0, none⟩ = some (.func (.yield l) #[] #[]) := cY.cell
    have k8 : V.drew.cell? ⟨F.Q, 8, none⟩ = some (.map (some F.mb)) := (H.out.later hBV).c 8
    have hlk := ((HM.out.kept (hBV.block _ HM.out.lt)).kept (w' := V.drew) rfl).run_look u.2
    rw [hv] at hlk
    have HV : Hid ((m u.1).getD nils = .slice p nn cc) := hv
    have hbd : Below V.heap.size V V.drew := (Below.refl _ V).drew
    obtain ⟨fn, tmps, assign, body, hy, hR⟩ := yield_deep (F := Fence.wide) rfl (n - 1 - 1 - 1) l1 (hY xs ⟨u.1, p, nn, cc⟩ V.drew (own_below hJ hJs hbd) (by omega))
    dsimp only at hy
    clear hrd hJs hBV cL cY hv hY
    gi_wp2_with fail
    refine wpIn_mono (Q := fun e' a' V' => e' = .normal ∧ ∃ b : Bool, a' = { tmps := #[.func (.yield l) #[] #[], .pointer (some ⟨Bl, 0, none⟩), .pointer (some ⟨W.heap.size, 0, none⟩), .int .u64 u.1, qp F.Q, .bool false, qp F.Q, qp F.Q, .pointer (some ⟨F.Q, 6, none⟩), qp F.q1, seqV (W.heap.size + 1), .int .u64 u.1, .func (.yield l) #[] #[], .int .u64 u.1, qp F.Q, qp F.Q, .pointer (some ⟨F.Q, 8, none⟩), .map (some F.mb), .int .u64 u.1, .slice p nn cc, .bool b, .bool (!b)], defers := [] } ∧ Hid (KeepsFrom W.heap.size V.drew V' ∧ ((b = true ∧ J (xs ++ [⟨u.1, p, nn, cc⟩]) V' ∧ KP w0.heap.size V.drew V') ∨ (b = false ∧ Jx (xs ++ [⟨u.1, p, nn, cc⟩]) V')))) ?cut ?rest
    case cut =>
      refine stand_region V 4 Bl W.heap.size F.Q F.mb (.func (.yield l) #[] #[]) u.1 p nn cc _ _ _ _ _ _ _ _ _ V.drew rfl kl ky k8 hlk ?_
      refine wpAnyIn_ready (rs := [8]) (by kernel_rfl) (by simp) ?_
      refine AllReadyIn.cons rfl (fun Kc hKc => ?_) AllReadyIn.nil
      go_simp
      refine ⟨fun _ => by omega, hR.mono ?_⟩
      rintro e' V3 hpost
      obtain ⟨b, rfl, HP⟩ : ∃ b : Bool, e' = .returned (.bool b) ∧ Hid (KeepsFrom W.heap.size V.drew V3 ∧ ((b = true ∧ J (xs ++ [⟨u.1, p, nn, cc⟩]) V3 ∧ KP w0.heap.size V.drew V3) ∨ (b = false ∧ Jx (xs ++ [⟨u.1, p, nn, cc⟩]) V3))) := hpost.2.elim (fun ⟨he, h1, h2⟩ => ⟨true, he, hpost.1, .inl ⟨rfl, h1, h2⟩⟩) (fun ⟨he, h1⟩ => ⟨false, he, hpost.1, .inr ⟨rfl, h1⟩⟩)
      clear hpost
      refine hKc _ _ ?_
      clear hKc Kc
      refine wpAnyIn_ready (rs := [9]) (by kernel_rfl) (by simp) ?_
      refine AllReadyIn.cons rfl (fun Kc hKc => ?_) AllReadyIn.nil
      go_simp
      refine hKc _ _ ?_
      refine wpAnyIn_done (by kernel_rfl) ?_ _
      exact ⟨rfl, b, rfl, HP⟩
    case rest =>
      rintro e' a' V3 ⟨rfl, b, rfl, HP⟩
      clear hR hy hlk kl ky k8
      have HF : Hid (KeepsFrom (W.heap.size + 2) V V3) := (keeps_of_below hbd _).trans (keeps_more HP.out.1 (by omega))
      have HI0 : Hid ((xs ++ [(⟨u.1, p, nn, cc⟩ : TV)]).map TV.two = its m ((pre ++ [u]).map Subtype.val)) := by
        show _ = _
        rw [List.map_append, List.map_append, its, List.map_append, HRD.out]
        simp only [List.map_cons, List.map_nil, HV.out]
        rfl
      cases b with
      | true =>
        obtain ⟨_, (⟨_, hJ3, hkp3⟩ | ⟨hc, _⟩)⟩ := HP.out
        · have HQ : Hid (Below w0.heap.size V V3) := (hbd.mono HBV.out.size).trans hkp3.low
          have HI : Hid ((∃ ys : List TV, ys.map TV.two = its m ((pre ++ [u]).map Subtype.val) ∧ J ys V3) ∧ (Below w0.heap.size w0 V3 ∧ (Boxed V3 Bl 26 (qp F.Q) ∧ Boxed V3 W.heap.size 117 (.func (.yield l) #[] #[])))) :=
            ⟨⟨_, HI0.out, hJ3⟩, HBV.out.trans HQ.out, hkp3.typ _ _ _ (.inl rfl) ((hbd.block _ HcL.out.lt).trans HcL.out), hkp3.typ _ _ _ (.inr (.inr rfl)) ((hbd.block _ HcY.out.lt).trans HcY.out)⟩
          clear hJ3 hkp3
          gi_wp2
          exact ⟨HF.out, HQ.out, HI.out⟩
        · cases hc
      | false =>
        obtain ⟨_, (⟨hc, _⟩ | ⟨_, hJx3⟩)⟩ := HP.out
        · cases hc
        · have HX : Hid (Jx (xs ++ [⟨u.1, p, nn, cc⟩]) V3) := hJx3
          clear hJx3
          gi_wp2
          exact ⟨HF.out, rfl, _, HI0.out, HX.out⟩
  case done =>
    rintro D ys V hD hS ⟨⟨xs, hrd, hJs⟩, hBV, cL, cY⟩ hK
    have HA : Hid (xs.map TV.two = its m (wt a.W)) := by show _ = _; rw [hrd, hS]
    have HJV : Hid (J xs (V.putObj D (.deferred none))) := (own_wide hJ (show W.heap.size ≤ W2.heap.size by omega)).putObj _ hJs hD hK rfl
    clear hrd hJs hBV cL cY
    gi_wp2
    refine ⟨by simp, .inl ⟨_, _, rfl, run_takeDeferred hK, ?_⟩⟩
    exact ⟨_, results_none rfl _ _ _, ⟨_, rfl⟩, .inl ⟨xs, HA.out, HJV.out⟩⟩
  case stop =>
    rintro D c pre V hD hpre ⟨rfl, xs, hrd, hJs⟩ hK
    have HA : Hid (xs.map TV.two <+: its m (wt a.W)) := by show _ <+: _; rw [hrd]; exact hpre.map _
    have HJV : Hid (Jx xs (V.putObj D (.deferred none))) := (own_wide hJx (show W.heap.size ≤ W2.heap.size by omega)).putObj _ hJs hD hK rfl
    clear hrd hJs
    gi_wp2
    refine ⟨by simp, .inl ⟨_, _, rfl, run_takeDeferred hK, ?_⟩⟩
    exact ⟨_, results_none rfl _ _ _, ⟨_, rfl⟩, .inr ⟨xs, HA.out, HJV.out⟩⟩



end Go.Proofs.YtnbegddpgmejnaaGreat
