/-
  Layer 15: Ring.
-/
import Derived.Test.YtkgjmejpbklabaaGv
import Derived.Deep.LoopGhost
namespace Go.Proofs.Ytkgjmejpbklabaa
open Go.RowKit

open B (IIn I64)

/-- what is known where the ring is sought -/
structure Rst (w W : World) (k b3 tg cT ng : Nat) (ts : List Int) (nx : List (List Nat)) : Prop where
  bel : RowKit.Below w.heap.size w W
  bx : GBx W b3 (.slice (some ⟨tg, 0, none⟩) k cT) (.slice (some ⟨ng, 0, none⟩) k k)
  tk : W.ownsRow w.heap.size 25 1 (.slice (some ⟨tg, 0, none⟩) k cT) k (U64 ts)
  nin : NIn (fun b => w.heap.size ≤ b ∧ b < b3) W (.slice (some ⟨ng, 0, none⟩) k k) nx
theorem Rst.later {w W W' : World} {k b3 tg cT ng : Nat} {ts : List Int} {nx : List (List Nat)} (h : Rst w W k b3 tg cT ng ts nx) (hb : RowKit.Below W.heap.size W W') : Rst w W' k b3 tg cT ng ts nx where
  bel := below_then h.bel hb
  bx := h.bx.later hb
  tk := O.own_later h.tk hb
  nin := h.nin.later hb
theorem GIs.len2 {es : List (Int × Int)} {ts : List Int} {nx : List (List Nat)} (h : GIs es ts nx) {k : Nat} (hk : ts.length = k) : nx.length = k ∧ (∀ i v, v ∈ nx.getD i [] → v < k) ∧ (∀ i, (nx.getD i []).Nodup) ∧ (k ≤ 9000 → ∀ i, (nx.getD i []).length ≤ 9000) := by
  have h1 : ∀ i v, v ∈ nx.getD i [] → v < k := fun i v hv => by have := (h.lt (u := i) (v := v) hv).2; omega
  refine ⟨h.len.trans hk, h1, fun i => up_nodup (h.row i), fun h9 i => ?_⟩
  have := nodup_lt (n := k) (up_nodup (h.row i)) fun v hv => h1 i v hv
  omega
theorem leastOnRing_two {S : Nat → Prop} {w : World} {tp : Option Addr} {tn tc : Nat} {nv : Value} {nx : List (List Nat)} {n : Nat} (hn : nx.length = n) (hz : n ≤ 9000) (hNX : NIn S w nv nx) (hwf : ∀ i v, v ∈ nx.getD i [] → v < n) (hnd : ∀ i, (nx.getD i []).Nodup)
    {p : Option Addr} {c M : Nat} {o : List Nat} (hM : o.length = M) (hO : IIn w p M (nz o)) (hs : Stl (Ed nx) n o) :
    Calls Try.prog 21 #[.agg #[.slice tp tn tc, nv], .slice p M c] w fun e w' => RowKit.Below w.heap.size w w' ∧ ∃ (m : Nat) (b : Bool), e = .returned (.tuple #[.int .i64 (m : Int), .bool b]) ∧ ((b = false ∧ ∀ x, ¬ OnR (Ed nx) x) ∨ (b = true ∧ m < n ∧ OnR (Ed nx) m ∧ ∀ x, OnR (Ed nx) x → m ≤ x)) := by
  refine (leastOnRing_at hn hz hNX hwf hnd hM hO hs).mono ?_
  rintro e w' ⟨h1, ⟨rfl, h2⟩ | ⟨m, rfl, h2⟩⟩
  · exact ⟨h1, 0, false, rfl, .inl ⟨rfl, h2⟩⟩
  · exact ⟨h1, m, true, rfl, .inr ⟨rfl, h2⟩⟩
/-- the tickets of some places -/
def tks (ts : List Int) (l : List Nat) : List Int := l.map fun x => ts.getD x 0

set_option maxHeartbeats 2000000 in
set_option maxRecDepth 100000 in
theorem ring_at {w : World} {p : Option Addr} {n c : Nat} {es : List Eg} (hE : EIn w p n es) (hz : n ≤ 4500) :
    Calls Try.prog 13 #[.slice p n c] w fun e w' => ∃ (q : Option Addr) (cq : Nat) (l : List Nat) (ts : List Int) (nx : List (List Nat)), e = .returned (.slice q l.length cq) ∧ w'.ownsRow w.heap.size 25 1 (.slice q l.length cq) l.length (U64 (tks ts l)) ∧ RowKit.Below w.heap.size w w' ∧ GIs (egs es) ts nx ∧ RingIs (Ed nx) l := by
  go_enter Try.func13, Try.ntmps13
  go_wp2_with fail
  refine (graphOf_at hE hz).mono ?_
  rintro e w1 ⟨tg, cT, ng, ts, nx, rfl, hb1, hGI, hk9, hT1, hN1⟩
  obtain ⟨k, hk⟩ : ∃ k, ts.length = k := ⟨_, rfl⟩
  rw [hk] at hT1 hN1 hk9 ⊢
  have HGI : Hid (GIs (egs es) ts nx) := hGI
  have HK : Hid (ts.length = k) := hk
  have HGL : Hid (nx.length = k ∧ (∀ i v, v ∈ nx.getD i [] → v < k) ∧ (∀ i, (nx.getD i []).Nodup) ∧ (k ≤ 9000 → ∀ i, (nx.getD i []).length ≤ 9000)) := hGI.len2 hk
  have HST0 : Hid (Rst w (w1.alloc (Obj.cells #[Value.slice (some ⟨tg, 0, none⟩) k cT, Value.slice (some ⟨ng, 0, none⟩) k k] 56)) k w1.heap.size tg cT ng ts nx) := {
    bel := below_then hb1 (below_alloc _ _)
    bx := GBx.new w1 _ _
    tk := O.own_later hT1 (below_alloc _ _)
    nin := hN1.later (below_alloc _ _) }
  clear hb1 hGI hT1 hN1 hk hE
  go_upto_region 2 with fail
  generalize w1.alloc (Obj.cells #[Value.slice (some ⟨tg, 0, none⟩) k cT, Value.slice (some ⟨ng, 0, none⟩) k k] 56) = W1 at HST0 ⊢
  generalize w1.heap.size = b3 at *
  refine wp_region_noPanic ?_
  refine wp_region_held_drew (S := (fun W : World => W.cell? ⟨b3, 0, none⟩ = some (.slice (some ⟨tg, 0, none⟩) k cT) ∧ W.cell? ⟨b3, 1, none⟩ = some (.slice (some ⟨ng, 0, none⟩) k k))) (by kernel_rfl) ⟨HST0.out.bx.c0, HST0.out.bx.c1⟩ (fun hHeld => ?_)
  have HST : Hid (Rst w W1.drew k b3 tg cT ng ts nx) := HST0.out.later (below_dr _ _ 1)
  clear HST0
  generalize W1.drew = we at *
  refine wpAnyH_take (i := 0) (v := ?va1) (by simp; rfl) (by kernel_rfl) (by kernel_rfl) (by kernel_rfl) (fun _ _ _ h => h) (Or.inl ⟨by rfl, ?ya1⟩) hHeld ?ra1
  case ya1 => intro w hSw; obtain ⟨z1, z2⟩ := hSw; go_simp; with_reducible rfl
  simp only [Act.put, List.setIfInBounds_toArray, List.set_cons_zero, List.set_cons_succ]
  refine wpAnyH_take (i := 1) (v := ?va2) (by simp; rfl) (by kernel_rfl) (by kernel_rfl) (by kernel_rfl) (fun _ _ _ h => h) (Or.inl ⟨by rfl, ?ya2⟩) hHeld ?ra2
  case ya2 => intro w hSw; obtain ⟨z1, z2⟩ := hSw; go_simp; with_reducible rfl
  simp only [Act.put, List.setIfInBounds_toArray, List.set_cons_zero, List.set_cons_succ]
  refine wpAnyH_ready (rs := [2]) (by kernel_rfl) (by simp) ?_
  refine AllReadyH.cons (by simp; rfl) (fun Kc hKc => ?_) AllReadyH.nil
  go_simp
  refine (settled_at HGL.out.1 hk9 HST.out.nin HGL.out.2.1 (HGL.out.2.2.2 hk9)).mono ?_
  rintro e wn ⟨po, co, o, rfl, hOr, bn, hStl⟩
  have HSTn : Hid (Rst w wn k b3 tg cT ng ts nx) := HST.out.later bn
  clear HST
  have HST := HSTn
  clear HSTn
  have HSL : Hid (Stl (Ed nx) k o) := hStl
  have HOI : Hid (IIn wn po o.length (nz o)) := own_iin hOr
  clear hStl hOr bn
  refine hKc.out _ _ ⟨HST.out.bx.c0, HST.out.bx.c1⟩ (fun hHeld => ?_)
  clear hKc Kc
  generalize wn = we at *
  try simp only [Act.put, List.setIfInBounds_toArray, List.set_cons_zero, List.set_cons_succ]

  refine wpAnyH_ready (rs := [3]) (by kernel_rfl) (by simp) ?_
  refine AllReadyH.cons (by simp; rfl) (fun Kc hKc => ?_) AllReadyH.nil
  go_simp
  refine (leastOnRing_two HGL.out.1 hk9 HST.out.nin HGL.out.2.1 HGL.out.2.2.1 rfl HOI.out HSL.out).mono ?_
  rintro e wn ⟨bn, m, bb, rfl, hM⟩
  have HSTn : Hid (Rst w wn k b3 tg cT ng ts nx) := HST.out.later bn
  clear HST
  have HST := HSTn
  clear HSTn
  have HM : Hid ((bb = false ∧ ∀ x, ¬ OnR (Ed nx) x) ∨ (bb = true ∧ m < k ∧ OnR (Ed nx) m ∧ ∀ x, OnR (Ed nx) x → m ≤ x)) := hM
  clear hM bn HOI
  refine hKc.out _ _ ⟨HST.out.bx.c0, HST.out.bx.c1⟩ (fun hHeld => ?_)
  clear hKc Kc
  generalize wn = we at *
  try simp only [Act.put, List.setIfInBounds_toArray, List.set_cons_zero, List.set_cons_succ]

  refine wpAnyH_take (i := 4) (v := ?va3) (by simp; rfl) (by kernel_rfl) (by kernel_rfl) (by kernel_rfl) (fun _ _ _ h => h) (Or.inl ⟨by rfl, ?ya3⟩) hHeld ?ra3
  case ya3 => intro w hSw; clear hSw; go_simp; with_reducible rfl
  simp only [Act.put, List.setIfInBounds_toArray, List.set_cons_zero, List.set_cons_succ]
  refine wpAnyH_take (i := 5) (v := ?va4) (by simp; rfl) (by kernel_rfl) (by kernel_rfl) (by kernel_rfl) (fun _ _ _ h => h) (Or.inl ⟨by rfl, ?ya4⟩) hHeld ?ra4
  case ya4 => intro w hSw; clear hSw; go_simp; with_reducible rfl
  simp only [Act.put, List.setIfInBounds_toArray, List.set_cons_zero, List.set_cons_succ]
  refine wpAnyH_take (i := 6) (v := ?va5) (by simp; rfl) (by kernel_rfl) (by kernel_rfl) (by kernel_rfl) (fun _ _ _ h => h) (Or.inl ⟨by rfl, ?ya5⟩) hHeld ?ra5
  case ya5 => intro w hSw; clear hSw; go_simp; with_reducible rfl
  simp only [Act.put, List.setIfInBounds_toArray, List.set_cons_zero, List.set_cons_succ]
  refine wpAnyH_take (i := 7) (v := ?va6) (by simp; rfl) (by kernel_rfl) (by kernel_rfl) (by kernel_rfl) (fun _ _ _ h => h) (Or.inl ⟨by rfl, ?ya6⟩) hHeld ?ra6
  case ya6 => intro w hSw; clear hSw; go_simp; with_reducible rfl
  simp only [Act.put, List.setIfInBounds_toArray, List.set_cons_zero, List.set_cons_succ]
  refine wpAnyH_take (i := 8) (v := ?va7) (by simp; rfl) (by kernel_rfl) (by kernel_rfl) (by kernel_rfl) (fun _ _ _ h => h) (Or.inl ⟨by rfl, ?ya7⟩) hHeld ?ra7
  case ya7 => intro w hSw; clear hSw; go_simp; with_reducible rfl
  simp only [Act.put, List.setIfInBounds_toArray, List.set_cons_zero, List.set_cons_succ]
  refine wpAnyH_done (by kernel_rfl) (NoPanic.normal ?_) _
  clear hHeld

  cases bb with
  | false =>
    have HN : Hid (∀ x, ¬ OnR (Ed nx) x) := by
      rcases HM.out with h | h
      · exact h.2
      · cases h.1
    clear HM
    go_wp2_with fail
    go_ret
    exact ⟨none, 0, [], ts, nx, rfl, World.ownsRow_nil _ _ _ _, HST.out.bel, HGI.out, .inl ⟨rfl, HN.out⟩⟩
  | true =>
    have HN : Hid (m < k ∧ OnR (Ed nx) m ∧ ∀ x, OnR (Ed nx) x → m ≤ x) := by
      rcases HM.out with h | h
      · cases h.1
      · exact h.2
    clear HM
    have hc0 := HST.out.bx.c0
    have hc1 := HST.out.bx.c1
    go_wp2_with fail
    clear hc0 hc1
    refine (unreached_at hk9).mono ?_
    rintro e w2 ⟨gf, rfl, bn, hF2⟩
    have HST2 : Hid (Rst w w2 k b3 tg cT ng ts nx) := HST.out.later bn
    have HF2 : Hid (w2.ownsRow w.heap.size 3 1 (.slice (some ⟨gf, 0, none⟩) k k) k (I64 (nz (List.replicate k NW)))) := B.own_mono hF2 HST.out.bel.size
    have hgb : b3 < gf := by have := (hF2.lt gf rfl).1; have := HST.out.bx.lt; omega
    clear hF2 bn HST
    have hc0 := HST2.out.bx.c0
    have hc1 := HST2.out.bx.c1
    go_wp2_with fail
    clear hc0 hc1
    refine (turned_at HGL.out.1 hk9 HST2.out.nin HGL.out.2.1 HGL.out.2.2.1).mono ?_
    rintro e w3 ⟨nvb, bk, rfl, hT3, hN3, bn⟩
    have HST3 : Hid (Rst w w3 k b3 tg cT ng ts nx) := HST2.out.later bn
    have HF3 : Hid (w3.ownsRow w.heap.size 3 1 (.slice (some ⟨gf, 0, none⟩) k k) k (I64 (nz (List.replicate k NW)))) := O.own_later HF2.out bn
    have HTD : Hid (Tnd nx bk) := hT3
    have hbk : bk.length = k := hT3.1.trans HGL.out.1
    have hgf : gf < w2.heap.size := (HF2.out.lt gf rfl).2
    have hwfb : ∀ i v, v ∈ bk.getD i [] → v < k := fun i v hv => by
      have := ((hT3.2.1 v i).1 hv).lt
      have := HGL.out.1
      omega
    have hrlb : ∀ i, (bk.getD i []).length ≤ 9000 := fun i => by
      have := nodup_lt (n := k) (hT3.2.2 i) fun v hv => hwfb i v hv
      omega
    have HCL : Hid _ := flood_at (tv := .slice (some ⟨tg, 0, none⟩) k cT) hbk hk9 hN3 hwfb hrlb HF3.out (fun h => by omega) HN.out.1 (fg_rep _ _)
    clear hT3 hN3 bn HST2 HF2 hbk hgf hwfb hrlb
    go_wp2_with fail
    refine Calls.mono HCL.out ?_
    rintro e w4 ⟨pq, cq, q, f, rfl, hq, hF4, hk4, hFl⟩
    clear HCL hq
    have HST4 : Hid (Rst w w4 k b3 tg cT ng ts nx) := {
      bel := hk4.into HST3.out.bel (fun b hb e => by have := HST3.out.bx.lt; have := (HF3.out.lt gf rfl).1; omega) (Nat.le_refl _)
      bx := HST3.out.bx.far hk4 (by omega)
      tk := O.own_far HST3.out.tk hk4 fun b hb e => O.own_ne HST3.out.tk HF3.out (by decide) hb (by rw [e]; rfl)
      nin := HST3.out.nin.far hk4 fun b hb e => by omega }
    have HF4 : Hid (w4.ownsRow w.heap.size 3 1 (.slice (some ⟨gf, 0, none⟩) k k) k (I64 (nz f))) := hF4
    have hFl' : Flo bk (List.replicate nx.length NW) m q f := by rw [HGL.out.1]; exact hFl
    have HDI : Hid (Dis (Ed nx) m f) := hFl'.dis HTD.out (by rw [HGL.out.1]; unfold NW; omega)
    have HDL : Hid (∀ x, fg f x ≠ NW → fg f x < k) := fun x hx => by
      by_cases hq : x ∈ q
      · have := hFl.lt x hq; rw [HTD.out.1, HGL.out.1] at this; exact this
      · exact absurd ((hFl.fr x hq).trans (fg_rep _ _)) hx
    obtain ⟨L, hL⟩ := HN.out.2.1.cyc
    have hRat := hL.rat
    have hLk : L ≤ k := by
      obtain ⟨h0, ⟨y, h1, h2⟩, h3⟩ := hRat
      have h4 := (HDI.out y).1 _ h2
      have h5 := (HDI.out y).2 (by have := h4.2; omega)
      have h6 := h3 y _ h1 h5
      have h7 := HDL.out y (by have := h4.2; omega)
      omega
    have HR0 : Hid (Rat (Ed nx) m L m ∧ Told (Ed nx) m L L m []) := ⟨hRat, Told.start⟩
    have HCY : Hid (Cyc (Ed nx) m L) := hL
    clear hF4 hk4 hFl hFl' HF3 HST3 HTD hL hRat
    have hmk := HN.out.1
    go_wp2_with fail
    go_loopg [7, 8] L (fun rem v7 v8 W => ∃ (p7 : Option Addr) (c7 x : Nat) (out : List Nat), v7 = .slice p7 out.length c7 ∧ v8 = .int .i64 (x : Int) ∧ x < k ∧ out.length + rem = L ∧ Hid (RowKit.Below w4.heap.size w4 W) ∧ Hid (W.ownsRow w4.heap.size 25 1 (.slice p7 out.length c7) out.length (U64 (tks ts out))) ∧ Hid (Rat (Ed nx) m rem x ∧ Told (Ed nx) m L rem x out))
    case atStart => exact ⟨none, 0, m, [], rfl, rfl, hmk, by simp, RowKit.Below.refl _ _, World.ownsRow_nil _ _ _ _, HR0⟩
    case round =>
      obtain ⟨p7, c7, x, out, rfl, rfl, hxk, hol, HBr, HOr, HRT⟩ := hrel
      have hr0 : 0 < gk := HRT.out.1.1
      have HSTr : Hid (Rst w wr k b3 tg cT ng ts nx) := HST4.out.later HBr.out
      have hc0 := HSTr.out.bx.c0
      have hct : wr.cell? ⟨tg, x, none⟩ = some (.int .u64 (ts.getD x 0)) := O.own_cell HSTr.out.tk (U64_get (by have := HK.out; omega))
      have HSZ : Hid (w4.heap.size ≤ wr.heap.size) := HBr.out.size
      have HTX : Hid (U64 (tks ts out) ++ [.int .u64 (ts.getD x 0)] = U64 (tks ts (out ++ [x]))) := by
        show _ = _
        simp [tks, U64]
      generalize ts.getD x 0 = tx at *
      go_wp2_with (at_builtin; refine O.wpList_one (w := wr) rfl (.tmp 28) (.tmp 34) O.elU rfl rfl HOr.out _ rfl (by simp) rfl (by omega) HSZ.out ?_; intro p5 c5 w5 ho hk hv; have HO5 : Hid (w5.ownsRow w4.heap.size 25 1 (.slice p5 (out.length + 1) c5) (out.length + 1) (U64 (tks ts out) ++ [.int .u64 tx])) := ho; have HB5 : Hid (RowKit.Below w4.heap.size w4 w5) := hk.into HBr.out (fun b hb e => by have := (HOr.out.lt b e).1; omega) (Nat.le_refl _); have HST5 : Hid (Rst w w5 k b3 tg cT ng ts nx) := HST4.out.later HB5.out; have hd0 := HST5.out.bx.c0; have hd1 := HST5.out.bx.c1; clear ho hk hv hc0 hct)
      have hne : nx.getD x [] ≠ [] := by
        obtain ⟨y, hy, _⟩ := HRT.out.1.2.1
        exact List.ne_nil_of_mem (show y ∈ nx.getD x [] from hy)
      refine (nearest_at HGL.out.1 hk9 HST5.out.nin HGL.out.2.1 HGI.out.row hxk hne (O.own_later HF4.out HB5.out)).mono ?_
      rintro e w6 ⟨y, rfl, bn, hy1, hy2, hy3⟩
      have hnear := HRT.out.1.near HDI.out hy1 hy2 hy3
      have HB6 : Hid (RowKit.Below w4.heap.size w4 w6) := below_then HB5.out bn
      have HO6 : Hid (w6.ownsRow w4.heap.size 25 1 (.slice p5 (out.length + 1) c5) (out.length + 1) (U64 (tks ts (out ++ [x])))) := by
        have := O.own_later HO5.out bn
        rw [HTX.out] at this
        exact this
      have HTO : Hid (Told (Ed nx) m L (gk - 1) y (out ++ [x])) := HRT.out.2.step hr0 hnear.1
      have HNX : Hid (Nx (Ed nx) m (gk - 1) x y) := hnear.1
      have hyk : y < k := HGL.out.2.1 x y hy1
      have HLA : Hid (y = m ↔ gk = 1) := HRT.out.1.last hnear.1
      clear hnear hy1 hy2 hy3 bn HO5 HB5 HST5 hd0 hd1 hne
      by_cases hym : y = m
      · subst hym
        have h1 := HLA.out.1 rfl
        go_wp2_with fail
        go_ret
        have hw : Wk (Ed nx) y L y (out ++ [x]) := by
          have := HTO.out
          rw [h1] at this
          exact this.done
        refine ⟨p5, c5, out ++ [x], ts, nx, by simp, ?_, ?_, HGI.out, .inr ⟨y, L, HN.out.2.1, HN.out.2.2, HCY.out, hw⟩⟩
        · rw [List.length_append, List.length_singleton]
          exact B.own_mono HO6.out HST4.out.bel.size
        · exact below_then HST4.out.bel HB6.out
      · have hg1 : 1 < gk := by
          have : gk ≠ 1 := fun e => hym (HLA.out.2 e)
          omega
        have hne : ¬ (y : Int) = (m : Int) := by omega
        have HRA : Hid (Rat (Ed nx) m (gk - 1) y) := HRT.out.1.next hg1 HNX.out
        go_wp2_with fail
        go_roundg (gk - 1)
        case rel =>
          refine ⟨p5, c5, y, out ++ [x], by simp, rfl, hyk, by simp; omega, HB6, ?_, HRA.out, HTO.out⟩
          rw [List.length_append, List.length_singleton]
          exact HO6
        case measure => omega
end Go.Proofs.Ytkgjmejpbklabaa
