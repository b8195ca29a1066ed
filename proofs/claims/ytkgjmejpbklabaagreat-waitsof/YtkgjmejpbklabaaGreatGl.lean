/-
  Layer 15: the least place on a ring.
-/
import Derived.Test.YtkgjmejpbklabaaGreatGk
import Derived.Test.YtkgjmejpbklabaaGreatN10
import Derived.Sort.CutIn
namespace Go.Proofs.YtkgjmejpbklabaaGreat
open Go.RowKit
open B (IIn I64)
open Go.Shelf

attribute [local go_sem] Oper.semAt_some
/-- one value in a block of its own -/
def VBx (w : World) (b : Nat) (v : Value) (t : TypeId) : Prop := w.heap[b]? = some (.cells #[v] t (0, 0))
theorem VBx.c {w : World} {b : Nat} {v : Value} {t : TypeId} (h : VBx w b v t) : w.cell? ⟨b, 0, none⟩ = some v := by rw [cell_of_row _ b 0 _ t (0, 0) h]; rfl
theorem VBx.f {w : World} {b : Nat} {v : Value} {t : TypeId} (h : VBx w b v t) : w.frozen? ⟨b, 0, none⟩ = false := by simp [World.frozen?, show w.heap[b]? = _ from h]
theorem VBx.lt {w : World} {b : Nat} {v : Value} {t : TypeId} (h : VBx w b v t) : b < w.heap.size := (Array.getElem?_eq_some_iff.1 h).1
theorem VBx.far {T : Nat → Prop} {w w' : World} {b : Nat} {v : Value} {t : TypeId} (h : VBx w b v t) (hk : Kept T w w') (hb : ¬ T b) : VBx w' b v t := (hk.block b h.lt hb).trans h
theorem VBx.later {w w' : World} {b : Nat} {v : Value} {t : TypeId} (h : VBx w b v t) (hb : RowKit.Below w.heap.size w w') : VBx w' b v t := (hb.block b h.lt).trans h
theorem VBx.new (w : World) (v : Value) (t : TypeId) : VBx (w.alloc (.cells #[v] t)) w.heap.size v t := heap_alloc_new w _
theorem VBx.put {w : World} {b : Nat} {v : Value} {t : TypeId} (h : VBx w b v t) (u : Value) : VBx (w.setCell ⟨b, 0, none⟩ u) b u t := by
  have h0 : w.heap[b]? = some (.cells #[v] t (0, 0)) := h
  show _ = _
  rw [setCell_eq_setRow w b 0 _ t (0, 0) _ h0, setRow_heap w b _ _ t _ h0]; rfl
theorem GBx.f0 {w : World} {b : Nat} {tv nv : Value} (h : GBx w b tv nv) (j : Nat) : w.frozen? ⟨b, j, none⟩ = false := by simp [World.frozen?, show w.heap[b]? = _ from h]
theorem GBx.put {w : World} {b : Nat} {x y : Value} (h : GBx w b x y) (u v : Value) : GBx ((w.setCell ⟨b, 0, none⟩ u).setCell ⟨b, 1, none⟩ v) b u v := by
  have h0 : w.heap[b]? = some (.cells #[x, y] 70 (0, 0)) := h
  show _ = _
  have h1 : (w.setCell ⟨b, 0, none⟩ u).heap[b]? = some (.cells #[u, y] 70 (0, 0)) := by
    rw [setCell_eq_setRow w b 0 _ 70 (0, 0) _ h0, setRow_heap w b _ _ 70 _ h0]; rfl
  rw [setCell_eq_setRow _ b 1 _ 70 (0, 0) _ h1, setRow_heap _ b _ _ 70 _ h1]; rfl
theorem kept_two {w : World} (b : Nat) (u v : Value) : Kept (· = b) w ((w.setCell ⟨b, 0, none⟩ u).setCell ⟨b, 1, none⟩ v) := (Kept.setCell (w := w) b 0 _).trans (Kept.setCell b 1 _) fun _ _ h => h
/-- what stands ahead of the search -/
structure Lra (w W : World) (n b7 b8 gf : Nat) (tv nv nvb : Value) (S T : Nat → Prop) (nx bk : List (List Nat)) : Prop where
  bel : RowKit.Below w.heap.size w W
  gx : GBx W w.heap.size tv nv
  le : VBx W (w.heap.size + 1) (.int .i64 9223372036854775807) 3
  bx : GBx W b7 tv nvb
  fx : VBx W b8 (.slice (some ⟨gf, 0, none⟩) n n) 72
  nin : NIn T W nvb bk
  tnd : Tnd nx bk
  own : W.ownsRow (w.heap.size + 2) 3 1 (.slice (some ⟨gf, 0, none⟩) n n) n (I64 (nz (List.replicate n NW)))
  l7 : w.heap.size + 2 ≤ b7
  l8 : w.heap.size + 2 ≤ b8
  lf : w.heap.size + 2 ≤ gf
  tf : ¬ T gf
  tl : ∀ k, T k → w.heap.size + 2 ≤ k
theorem Lra.later {w W W' : World} {n b7 b8 gf : Nat} {tv nv nvb : Value} {S T : Nat → Prop} {nx bk : List (List Nat)} (h : Lra w W n b7 b8 gf tv nv nvb S T nx bk) (hb : RowKit.Below W.heap.size W W') : Lra w W' n b7 b8 gf tv nv nvb S T nx bk := { h with
  bel := below_then h.bel hb
  gx := h.gx.later hb
  le := h.le.later hb
  bx := h.bx.later hb
  fx := h.fx.later hb
  nin := h.nin.later hb
  own := O.own_later h.own hb }
theorem Lra.notf {w W : World} {n b7 b8 gf : Nat} {tv nv nvb : Value} {S T : Nat → Prop} {nx bk : List (List Nat)} (h : Lra w W n b7 b8 gf tv nv nvb S T nx bk) (e : b8 = gf ∨ b8 = w.heap.size + 1) : False := by
  rcases e with e | e
  · exact O.own_not h.own h.fx (by decide) (by rw [e]; rfl)
  · have := h.l8; omega
theorem Lra.notg {w W : World} {n b7 b8 gf : Nat} {tv nv nvb : Value} {S T : Nat → Prop} {nx bk : List (List Nat)} (h : Lra w W n b7 b8 gf tv nv nvb S T nx bk) (e : b7 = gf ∨ b7 = w.heap.size + 1) : False := by
  rcases e with e | e
  · exact O.own_not h.own h.bx (by decide) (by rw [e]; rfl)
  · have := h.l7; omega
/-- what stands in the search -/
structure Lri (W0 W : World) (lb gf B0 n : Nat) (nx : List (List Nat)) (o : List Nat) (M : Nat) (pre f : List Nat) (m : Nat) : Prop where
  kep : Kept (fun k => k = gf ∨ k = lb) W0 W
  far : W.ownsRow B0 3 1 (.slice (some ⟨gf, 0, none⟩) n n) n (I64 (nz f))
  lst : VBx W lb (.int .i64 (m : Int)) 3
  go : pre = dwn M pre.length → Lst nx (o.drop (M - pre.length)) f m
theorem Lri.own {W0 : World} {lb gf B0 n : Nat} {nx : List (List Nat)} {o : List Nat} {M : Nat} (hg : gf < W0.heap.size) (hl : lb < W0.heap.size) : OwnFrom W0.heap.size (fun pre W => ∃ f m, Lri W0 W lb gf B0 n nx o M pre f m) := by
  rintro pre W W' row ⟨f, m, h⟩ hgr hr
  have hk : Kept (fun k => row = some k) W W' := ⟨hgr.os, hgr.tape, hgr.output, hgr.size, fun k hk hn => hgr.block k hk fun e => hn e.symm⟩
  refine ⟨f, m, ⟨h.kep.trans hk fun k hk e => ?_, O.own_far h.far hk fun k hk e => ?_, h.lst.far hk fun e => ?_, h.go⟩⟩
  · have := (hr k e).1; omega
  · have := (hr k e).1
    simp [Value.ownBlock] at hk
    omega
  · have := (hr _ e).1; omega
theorem Kept.keepsFrom {S : Nat → Prop} {B : Nat} {W W' : World} (h : Kept S W W') (hS : ∀ k, S k → k < B) : KeepsFrom B W W' := ⟨h.size, fun k o hB hk _ => (h.block k (Array.getElem?_eq_some_iff.1 hk).1 fun e => by have := hS k e; omega).trans hk⟩
theorem Kept.kb {S T : Nat → Prop} {W W' : World} (h : Kept S W W') (hT : ∀ k, T k → k < W.heap.size ∧ ¬ S k) : Kb T W W' := fun k hk => h.block k (hT k hk).1 (hT k hk).2
theorem NIn.at {S : Nat → Prop} {w : World} {g n cg : Nat} {nx : List (List Nat)} (h : NIn S w (.slice (some ⟨g, 0, none⟩) n cg) nx) (i : Nat) (hi : i < nx.length) : ∃ p k, w.cell? ⟨g, i, none⟩ = some (.slice p (nx.getD i []).length k) ∧ IIn w p (nx.getD i []).length (nz (nx.getD i [])) := by
  obtain ⟨g', c, e, -, -, hc⟩ := h
  cases e
  obtain ⟨p, k, h1, h2, -⟩ := hc i hi
  exact ⟨p, k, h1, h2⟩
theorem own_iin {w : World} {base : Nat} {p : Option Addr} {n c : Nat} {xs : List Int} (h : w.ownsRow base 3 1 (.slice p n c) n (I64 xs)) : IIn w p n xs := by
  obtain ⟨p', c', e, h2, -⟩ := B.ints_in h
  cases e
  exact h2
theorem below_then2 {B : Nat} {a b c : World} (h : RowKit.Below B a b) (k : RowKit.Below b.heap.size b c) (hB : B ≤ a.heap.size := by exact Nat.le_refl _) : RowKit.Below B a c := h.trans (k.mono (Nat.le_trans hB h.size))
set_option maxHeartbeats 2000000 in
set_option maxRecDepth 100000 in
theorem leastOnRing_at {S : Nat → Prop} {w : World} {tp : Option Addr} {tn tc : Nat} {nv : Value} {nx : List (List Nat)} {n : Nat} (hn : nx.length = n) (hz : n ≤ 9000) (hNX : NIn S w nv nx) (hwf : ∀ i v, v ∈ nx.getD i [] → v < n) (hnd : ∀ i, (nx.getD i []).Nodup)
    {p : Option Addr} {c M : Nat} {o : List Nat} (hM : o.length = M) (hO : IIn w p M (nz o)) (hs : Stl (Ed nx) n o) :
    Calls Tryz.prog 24 #[.agg #[.slice tp tn tc, nv], .slice p M c] w fun e w' => RowKit.Below w.heap.size w w' ∧ ((e = .returned (.tuple #[.int .i64 0, .bool false]) ∧ ∀ x, ¬ OnR (Ed nx) x) ∨ ∃ m : Nat, e = .returned (.tuple #[.int .i64 (m : Int), .bool true]) ∧ m < n ∧ OnR (Ed nx) m ∧ ∀ x, OnR (Ed nx) x → m ≤ x) := by
  obtain ⟨g, cg, enx, -⟩ := hNX.row
  rw [hn] at enx
  subst enx
  have HNX : Hid (∀ W, RowKit.Below w.heap.size w W → NIn S W (.slice (some ⟨g, 0, none⟩) n cg) nx) := fun W hW => hNX.later hW
  refine (callsIn_wide (n := 9)).1 ?_
  refine callsIn_of_wp_marks Tryz.func24 rfl trivial ?_ rfl
  refine wpIn_wide.2 ?_
  simp only [Tryz.ntmps24, List.size_toArray, List.length_cons, List.length_nil, Nat.reduceAdd, Nat.reduceSub, Array.replicate_succ, Array.replicate_zero, List.push_toArray, List.append_toArray, List.nil_append, List.cons_append]
  go_upto_region 2 with fail
  go_cut [7, 8] from 12 to 15 (fun v v2 W => ∃ (b7 b8 gf g4 c4 : Nat) (T : Nat → Prop) (bk : List (List Nat)), v = .pointer (some ⟨b7, 0, none⟩) ∧ v2 = .pointer (some ⟨b8, 0, none⟩) ∧ Hid (Lra w W n b7 b8 gf (.slice tp tn tc) (.slice (some ⟨g, 0, none⟩) n cg) (.slice (some ⟨g4, 0, none⟩) n c4) S T nx bk))
  case first =>
    obtain ⟨W1, eW1⟩ : ∃ W1, ((w.alloc (Obj.cells #[Value.slice tp tn tc, .slice (some ⟨g, 0, none⟩) n cg] 70)).alloc (Obj.cells #[Value.int .i64 9223372036854775807] 3)) = W1 := ⟨_, rfl⟩
    rw [eW1]
    have HB : Hid (RowKit.Below w.heap.size w W1) := by rw [← eW1]; exact below_then (below_alloc w _) (below_alloc _ _)
    have HG : Hid (GBx W1 w.heap.size (.slice tp tn tc) (.slice (some ⟨g, 0, none⟩) n cg)) := by rw [← eW1]; exact (GBx.new w _ _).later (below_alloc _ _)
    have HL : Hid (VBx W1 (w.heap.size + 1) (.int .i64 9223372036854775807) 3) := by
      rw [← eW1]
      have := VBx.new (w.alloc (Obj.cells #[Value.slice tp tn tc, .slice (some ⟨g, 0, none⟩) n cg] 70)) (.int .i64 9223372036854775807) 3
      rw [World.size_alloc] at this
      exact this
    clear eW1 hNX hO
    refine wp_region_noPanic ?_
    refine wp_region_held_drew (S := (fun W : World => W.cell? ⟨w.heap.size, 0, none⟩ = some (.slice tp tn tc) ∧ W.cell? ⟨w.heap.size, 1, none⟩ = some (.slice (some ⟨g, 0, none⟩) n cg))) (by kernel_rfl) ⟨HG.out.c0, HG.out.c1⟩ (fun hHeld => ?_)
    have HBn : Hid (RowKit.Below w.heap.size w W1.drew) := HB.out.trans (below_dr _ _ 1)
    have HGn : Hid (GBx W1.drew w.heap.size (.slice tp tn tc) (.slice (some ⟨g, 0, none⟩) n cg)) := HG.out
    have HLn : Hid (VBx W1.drew (w.heap.size + 1) (.int .i64 9223372036854775807) 3) := HL.out
    clear HB HG HL
    have HB := HBn
    have HG := HGn
    have HL := HLn
    clear HBn HGn HLn
    generalize W1.drew = wd at *
    refine wpAnyH_take (i := 0) (v := ?va1) (by simp; rfl) (by kernel_rfl) (by kernel_rfl) (by kernel_rfl) (fun _ _ _ h => h) (Or.inl ⟨by rfl, ?ya1⟩) hHeld ?ra1
    case ya1 => intro w hSw; obtain ⟨z1, z2⟩ := hSw; go_simp; with_reducible rfl
    simp only [Act.put, List.setIfInBounds_toArray, List.set_cons_zero, List.set_cons_succ]
    refine wpAnyH_take (i := 2) (v := ?va2) (by simp; rfl) (by kernel_rfl) (by kernel_rfl) (by kernel_rfl) (fun _ _ _ h => h) (Or.inl ⟨by rfl, ?ya2⟩) hHeld ?ra2
    case ya2 => intro w hSw; obtain ⟨z1, z2⟩ := hSw; go_simp; with_reducible rfl
    simp only [Act.put, List.setIfInBounds_toArray, List.set_cons_zero, List.set_cons_succ]
    refine wpAnyH_ready (rs := [1, 4, 5]) (by kernel_rfl) (by simp) ?_
    refine AllReadyH.cons (by simp; rfl) (fun Kc hKc => ?_) (AllReadyH.cons (by simp; rfl) (fun Kc hKc => ?_) (AllReadyH.cons (by simp; rfl) (fun Kc hKc => ?_) AllReadyH.nil))
    · go_simp
      refine (turned_at (S := S) hn hz (HNX.out _ HB.out) hwf hnd).mono ?_
      rintro e wn ⟨nvb, bk, rfl, hT, hN, bn⟩
      obtain ⟨g4, c4, e4, -⟩ := hN.row
      rw [hT.1, hn] at e4
      subst e4
      have HBn : Hid (RowKit.Below w.heap.size w wn) := below_then2 HB.out bn
      have HGn : Hid (GBx wn w.heap.size (.slice tp tn tc) (.slice (some ⟨g, 0, none⟩) n cg)) := HG.out.later bn
      have HLn : Hid (VBx wn (w.heap.size + 1) (.int .i64 9223372036854775807) 3) := HL.out.later bn
      obtain ⟨ta, hta⟩ : ∃ ta, ta = wd.heap.size := ⟨_, rfl⟩
      obtain ⟨tb, htb⟩ : ∃ tb, tb = wn.heap.size := ⟨_, rfl⟩
      have HT : Hid (Tnd nx bk ∧ NIn (fun k => ta ≤ k ∧ k < tb) wn (.slice (some ⟨g4, 0, none⟩) n c4) bk ∧ w.heap.size + 2 ≤ ta ∧ tb ≤ wn.heap.size) := ⟨hT, by rw [hta, htb]; exact hN, by have := HL.out.lt; omega, by omega⟩
      clear hT hN bn hta htb
      clear HB HG HL
      have HB := HBn
      have HG := HGn
      have HL := HLn
      clear HBn HGn HLn
      refine hKc.out _ _ ⟨HG.out.c0, HG.out.c1⟩ (fun hHeld => ?_)
      clear hKc Kc
      generalize wn = wd at *
      try simp only [Act.put, List.setIfInBounds_toArray, List.set_cons_zero, List.set_cons_succ]

      refine wpAnyH_ready (rs := [3, 4, 5]) (by kernel_rfl) (by simp) ?_
      refine AllReadyH.cons (by simp; rfl) (fun Kc hKc => ?_) (AllReadyH.cons (by simp; rfl) (fun Kc hKc => ?_) (AllReadyH.cons (by simp; rfl) (fun Kc hKc => ?_) AllReadyH.nil))
      · go_simp
        refine (unreached_at hz).mono ?_
        rintro e wn ⟨gf, rfl, bn, hO⟩
        have HBn : Hid (RowKit.Below w.heap.size w wn) := below_then2 HB.out bn
        have HGn : Hid (GBx wn w.heap.size (.slice tp tn tc) (.slice (some ⟨g, 0, none⟩) n cg)) := HG.out.later bn
        have HLn : Hid (VBx wn (w.heap.size + 1) (.int .i64 9223372036854775807) 3) := HL.out.later bn
        have HTn : Hid (Tnd nx bk ∧ NIn (fun k => ta ≤ k ∧ k < tb) wn (.slice (some ⟨g4, 0, none⟩) n c4) bk ∧ w.heap.size + 2 ≤ ta ∧ tb ≤ wn.heap.size) := ⟨HT.out.1, HT.out.2.1.later bn, HT.out.2.2.1, Nat.le_trans HT.out.2.2.2 bn.size⟩
        have HO : Hid (wn.ownsRow (w.heap.size + 2) 3 1 (.slice (some ⟨gf, 0, none⟩) n n) n (I64 (nz (List.replicate n NW))) ∧ tb ≤ gf) := ⟨B.own_mono hO (by have := HT.out.2.2; have := HL.out.lt; omega), by have := (hO.lt gf rfl).1; have := HT.out.2.2.2; omega⟩
        clear hO bn
        clear HB HG HL HT
        have HB := HBn
        have HG := HGn
        have HL := HLn
        have HT := HTn
        clear HBn HGn HLn HTn
        refine hKc.out _ _ ⟨HG.out.c0, HG.out.c1⟩ (fun hHeld => ?_)
        clear hKc Kc
        generalize wn = wd at *
        try simp only [Act.put, List.setIfInBounds_toArray, List.set_cons_zero, List.set_cons_succ]

        refine wpAnyH_ready (rs := [4, 5]) (by kernel_rfl) (by simp) ?_
        refine AllReadyH.cons (by simp; rfl) (fun Kc hKc => ?_) (AllReadyH.cons (by simp; rfl) (fun Kc hKc => ?_) AllReadyH.nil)
        · go_simp
          obtain ⟨wn, ewn⟩ : ∃ wn, wd.alloc (Obj.cells #[nils, nils] 70) = wn := ⟨_, rfl⟩
          have bn : RowKit.Below wd.heap.size wd wn := by rw [← ewn]; exact below_alloc wd _
          have hnew : GBx wn wd.heap.size nils nils := by rw [← ewn]; exact GBx.new wd nils nils
          rw [ewn]
          obtain ⟨b7, eb⟩ : ∃ b, wd.heap.size = b := ⟨_, rfl⟩
          have H7 : Hid (GBx wn b7 nils nils ∧ w.heap.size + 2 ≤ b7) := ⟨by rw [← eb]; exact hnew, by have := HL.out.lt; omega⟩
          have H7B : Hid (¬ (ta ≤ b7 ∧ b7 < tb)) := fun h => by have := HT.out.2.2.2; omega
          have HBn : Hid (RowKit.Below w.heap.size w wn) := below_then2 HB.out bn
          have HGn : Hid (GBx wn w.heap.size (.slice tp tn tc) (.slice (some ⟨g, 0, none⟩) n cg)) := HG.out.later bn
          have HLn : Hid (VBx wn (w.heap.size + 1) (.int .i64 9223372036854775807) 3) := HL.out.later bn
          have HTn : Hid (Tnd nx bk ∧ NIn (fun k => ta ≤ k ∧ k < tb) wn (.slice (some ⟨g4, 0, none⟩) n c4) bk ∧ w.heap.size + 2 ≤ ta ∧ tb ≤ wn.heap.size) := ⟨HT.out.1, HT.out.2.1.later bn, HT.out.2.2.1, Nat.le_trans HT.out.2.2.2 bn.size⟩
          have HOn : Hid (wn.ownsRow (w.heap.size + 2) 3 1 (.slice (some ⟨gf, 0, none⟩) n n) n (I64 (nz (List.replicate n NW))) ∧ tb ≤ gf) := ⟨O.own_later HO.out.1 bn, HO.out.2⟩
          rw [eb]
          clear ewn hnew bn eb
          clear HB HG HL HT HO
          have HB := HBn
          have HG := HGn
          have HL := HLn
          have HT := HTn
          have HO := HOn
          clear HBn HGn HLn HTn HOn
          refine hKc.out _ _ ⟨HG.out.c0, HG.out.c1⟩ (fun hHeld => ?_)
          clear hKc Kc
          generalize wn = wd at *
          try simp only [Act.put, List.setIfInBounds_toArray, List.set_cons_zero, List.set_cons_succ]

          refine wpAnyH_ready (rs := [5]) (by kernel_rfl) (by simp) ?_
          refine AllReadyH.cons (by simp; rfl) (fun Kc hKc => ?_) AllReadyH.nil
          go_simp
          obtain ⟨wn, ewn⟩ : ∃ wn, wd.alloc (Obj.cells #[nils] 72) = wn := ⟨_, rfl⟩
          have bn : RowKit.Below wd.heap.size wd wn := by rw [← ewn]; exact below_alloc wd _
          have hnew : VBx wn wd.heap.size nils 72 := by rw [← ewn]; exact VBx.new wd nils 72
          rw [ewn]
          obtain ⟨b8, eb⟩ : ∃ b, wd.heap.size = b := ⟨_, rfl⟩
          have H8 : Hid (VBx wn b8 nils 72 ∧ w.heap.size + 2 ≤ b8) := ⟨by rw [← eb]; exact hnew, by have := HL.out.lt; omega⟩
          have H8B : Hid (¬ (ta ≤ b8 ∧ b8 < tb)) := fun h => by have := HT.out.2.2.2; omega
          have HBn : Hid (RowKit.Below w.heap.size w wn) := below_then2 HB.out bn
          have HGn : Hid (GBx wn w.heap.size (.slice tp tn tc) (.slice (some ⟨g, 0, none⟩) n cg)) := HG.out.later bn
          have HLn : Hid (VBx wn (w.heap.size + 1) (.int .i64 9223372036854775807) 3) := HL.out.later bn
          have HTn : Hid (Tnd nx bk ∧ NIn (fun k => ta ≤ k ∧ k < tb) wn (.slice (some ⟨g4, 0, none⟩) n c4) bk ∧ w.heap.size + 2 ≤ ta ∧ tb ≤ wn.heap.size) := ⟨HT.out.1, HT.out.2.1.later bn, HT.out.2.2.1, Nat.le_trans HT.out.2.2.2 bn.size⟩
          have HOn : Hid (wn.ownsRow (w.heap.size + 2) 3 1 (.slice (some ⟨gf, 0, none⟩) n n) n (I64 (nz (List.replicate n NW))) ∧ tb ≤ gf) := ⟨O.own_later HO.out.1 bn, HO.out.2⟩
          have H7n : Hid (GBx wn b7 nils nils ∧ w.heap.size + 2 ≤ b7) := ⟨H7.out.1.later bn, H7.out.2⟩
          rw [eb]
          clear ewn hnew bn eb
          clear HB HG HL HT HO H7
          have HB := HBn
          have HG := HGn
          have HL := HLn
          have HT := HTn
          have HO := HOn
          have H7 := H7n
          clear HBn HGn HLn HTn HOn H7n
          refine hKc.out _ _ ⟨HG.out.c0, HG.out.c1⟩ (fun hHeld => ?_)
          clear hKc Kc
          generalize wn = wd at *
          try simp only [Act.put, List.setIfInBounds_toArray, List.set_cons_zero, List.set_cons_succ]

          refine wpAnyH_ready (rs := [6]) (by kernel_rfl) (by simp) ?_
          refine AllReadyH.cons (by simp; rfl) (fun Kc hKc => ?_) AllReadyH.nil
          have d0 := H7.out.1.c0
          have d1 := H7.out.1.c1
          have f0 := H7.out.1.f0 0
          have f1 := H7.out.1.f0 1
          go_simp
          clear d0 d1 f0 f1
          obtain ⟨wn, ewn⟩ : ∃ wn, (wd.setCell ⟨b7, 0, none⟩ (.slice tp tn tc)).setCell ⟨b7, 1, none⟩ (.slice (some ⟨g4, 0, none⟩) n c4) = wn := ⟨_, rfl⟩
          have hk : Kept (· = b7) wd wn := by rw [← ewn]; exact kept_two b7 _ _
          have hnew : GBx wn b7 (.slice tp tn tc) (.slice (some ⟨g4, 0, none⟩) n c4) := by rw [← ewn]; exact H7.out.1.put _ _
          rw [ewn]
          have h7 := H7.out.2
          have H7n : Hid (GBx wn b7 (.slice tp tn tc) (.slice (some ⟨g4, 0, none⟩) n c4) ∧ w.heap.size + 2 ≤ b7) := ⟨hnew, h7⟩
          have HBn : Hid (RowKit.Below w.heap.size w wn) := hk.into HB.out (fun b hb e => by omega) (Nat.le_refl _)
          have HGn : Hid (GBx wn w.heap.size (.slice tp tn tc) (.slice (some ⟨g, 0, none⟩) n cg)) := HG.out.far hk (by omega)
          have HLn : Hid (VBx wn (w.heap.size + 1) (.int .i64 9223372036854775807) 3) := HL.out.far hk (by omega)
          have HTn : Hid (Tnd nx bk ∧ NIn (fun k => ta ≤ k ∧ k < tb) wn (.slice (some ⟨g4, 0, none⟩) n c4) bk ∧ w.heap.size + 2 ≤ ta ∧ tb ≤ wn.heap.size) := ⟨HT.out.1, HT.out.2.1.far hk (fun k hk2 e => by subst e; exact absurd hk2 (by have := H7B.out; omega)), HT.out.2.2.1, Nat.le_trans HT.out.2.2.2 hk.size⟩
          have HOn : Hid (wn.ownsRow (w.heap.size + 2) 3 1 (.slice (some ⟨gf, 0, none⟩) n n) n (I64 (nz (List.replicate n NW))) ∧ tb ≤ gf) := ⟨O.own_far HO.out.1 hk fun b hb e => O.own_not HO.out.1 H7.out.1 (by decide) (by rw [← e]; exact hb), HO.out.2⟩
          have H8n : Hid (VBx wn b8 nils 72 ∧ w.heap.size + 2 ≤ b8) := ⟨H8.out.1.far hk (fun e => by have h1 : wd.heap[b8]? = _ := H8.out.1; have h2 : wd.heap[b7]? = _ := H7.out.1; rw [e, h2] at h1; simp at h1), H8.out.2⟩
          clear hk hnew ewn h7
          clear HB HG HL HT HO H7 H8
          have HB := HBn
          have HG := HGn
          have HL := HLn
          have HT := HTn
          have HO := HOn
          have H7 := H7n
          have H8 := H8n
          clear HBn HGn HLn HTn HOn H7n H8n
          refine hKc.out _ _ ⟨HG.out.c0, HG.out.c1⟩ (fun hHeld => ?_)
          clear hKc Kc
          generalize wn = wd at *
          try simp only [Act.put]

          refine wpAnyH_ready (rs := [7]) (by kernel_rfl) (by simp) ?_
          refine AllReadyH.cons (by simp; rfl) (fun Kc hKc => ?_) AllReadyH.nil
          have d0 := H8.out.1.c
          have f0 := H8.out.1.f
          go_simp
          clear d0 f0
          obtain ⟨wn, ewn⟩ : ∃ wn, wd.setCell ⟨b8, 0, none⟩ (.slice (some ⟨gf, 0, none⟩) n n) = wn := ⟨_, rfl⟩
          have hk : Kept (· = b8) wd wn := by rw [← ewn]; exact Kept.setCell b8 0 _
          have hnew : VBx wn b8 (.slice (some ⟨gf, 0, none⟩) n n) 72 := by rw [← ewn]; exact H8.out.1.put _
          rw [ewn]
          have h8 := H8.out.2
          have HGn : Hid (GBx wn w.heap.size (.slice tp tn tc) (.slice (some ⟨g, 0, none⟩) n cg)) := HG.out.far hk (by omega)
          have HR : Hid (Lra w wn n b7 b8 gf (.slice tp tn tc) (.slice (some ⟨g, 0, none⟩) n cg) (.slice (some ⟨g4, 0, none⟩) n c4) S (fun k => ta ≤ k ∧ k < tb) nx bk) := {
            bel := hk.into HB.out (fun b hb e => by omega) (Nat.le_refl _)
            gx := HGn.out
            le := HL.out.far hk (by omega)
            bx := H7.out.1.far hk (fun e => by have h1 : wd.heap[b8]? = _ := H8.out.1; have h2 : wd.heap[b7]? = _ := H7.out.1; rw [← e, h2] at h1; simp at h1)
            fx := hnew
            nin := HT.out.2.1.far hk (fun k hk2 e => by subst e; exact absurd hk2 (by have := H8B.out; omega))
            tnd := HT.out.1
            own := O.own_far HO.out.1 hk fun b hb e => O.own_not HO.out.1 H8.out.1 (by decide) (by rw [← e]; exact hb)
            l7 := H7.out.2
            l8 := h8
            lf := by have := (HO.out.1.lt gf rfl).1; omega
            tf := fun h => by have := HO.out.2; omega
            tl := fun k h => by have := HT.out.2.2.1; omega }
          clear HG HB HL HT HO H7 H8 hk hnew ewn h8
          refine hKc.out _ _ ⟨HGn.out.c0, HGn.out.c1⟩ (fun hHeld => ?_)
          clear hKc Kc HGn
          generalize wn = wd at *
          try simp only [Act.put]

          refine wpAnyH_done (by kernel_rfl) (NoPanic.normal ?_) _
          clear hHeld
          go_wp2_with fail
          go_meet
          case rel => exact ⟨b7, b8, gf, g4, c4, _, bk, rfl, rfl, HR⟩
        · go_simp
          obtain ⟨wn, ewn⟩ : ∃ wn, wd.alloc (Obj.cells #[nils] 72) = wn := ⟨_, rfl⟩
          have bn : RowKit.Below wd.heap.size wd wn := by rw [← ewn]; exact below_alloc wd _
          have hnew : VBx wn wd.heap.size nils 72 := by rw [← ewn]; exact VBx.new wd nils 72
          rw [ewn]
          obtain ⟨b8, eb⟩ : ∃ b, wd.heap.size = b := ⟨_, rfl⟩
          have H8 : Hid (VBx wn b8 nils 72 ∧ w.heap.size + 2 ≤ b8) := ⟨by rw [← eb]; exact hnew, by have := HL.out.lt; omega⟩
          have H8B : Hid (¬ (ta ≤ b8 ∧ b8 < tb)) := fun h => by have := HT.out.2.2.2; omega
          have HBn : Hid (RowKit.Below w.heap.size w wn) := below_then2 HB.out bn
          have HGn : Hid (GBx wn w.heap.size (.slice tp tn tc) (.slice (some ⟨g, 0, none⟩) n cg)) := HG.out.later bn
          have HLn : Hid (VBx wn (w.heap.size + 1) (.int .i64 9223372036854775807) 3) := HL.out.later bn
          have HTn : Hid (Tnd nx bk ∧ NIn (fun k => ta ≤ k ∧ k < tb) wn (.slice (some ⟨g4, 0, none⟩) n c4) bk ∧ w.heap.size + 2 ≤ ta ∧ tb ≤ wn.heap.size) := ⟨HT.out.1, HT.out.2.1.later bn, HT.out.2.2.1, Nat.le_trans HT.out.2.2.2 bn.size⟩
          have HOn : Hid (wn.ownsRow (w.heap.size + 2) 3 1 (.slice (some ⟨gf, 0, none⟩) n n) n (I64 (nz (List.replicate n NW))) ∧ tb ≤ gf) := ⟨O.own_later HO.out.1 bn, HO.out.2⟩
          rw [eb]
          clear ewn hnew bn eb
          clear HB HG HL HT HO
          have HB := HBn
          have HG := HGn
          have HL := HLn
          have HT := HTn
          have HO := HOn
          clear HBn HGn HLn HTn HOn
          refine hKc.out _ _ ⟨HG.out.c0, HG.out.c1⟩ (fun hHeld => ?_)
          clear hKc Kc
          generalize wn = wd at *
          try simp only [Act.put, List.setIfInBounds_toArray, List.set_cons_zero, List.set_cons_succ]

          refine wpAnyH_ready (rs := [4]) (by kernel_rfl) (by simp) ?_
          refine AllReadyH.cons (by simp; rfl) (fun Kc hKc => ?_) AllReadyH.nil
          go_simp
          obtain ⟨wn, ewn⟩ : ∃ wn, wd.alloc (Obj.cells #[nils, nils] 70) = wn := ⟨_, rfl⟩
          have bn : RowKit.Below wd.heap.size wd wn := by rw [← ewn]; exact below_alloc wd _
          have hnew : GBx wn wd.heap.size nils nils := by rw [← ewn]; exact GBx.new wd nils nils
          rw [ewn]
          obtain ⟨b7, eb⟩ : ∃ b, wd.heap.size = b := ⟨_, rfl⟩
          have H7 : Hid (GBx wn b7 nils nils ∧ w.heap.size + 2 ≤ b7) := ⟨by rw [← eb]; exact hnew, by have := HL.out.lt; omega⟩
          have H7B : Hid (¬ (ta ≤ b7 ∧ b7 < tb)) := fun h => by have := HT.out.2.2.2; omega
          have HBn : Hid (RowKit.Below w.heap.size w wn) := below_then2 HB.out bn
          have HGn : Hid (GBx wn w.heap.size (.slice tp tn tc) (.slice (some ⟨g, 0, none⟩) n cg)) := HG.out.later bn
          have HLn : Hid (VBx wn (w.heap.size + 1) (.int .i64 9223372036854775807) 3) := HL.out.later bn
          have HTn : Hid (Tnd nx bk ∧ NIn (fun k => ta ≤ k ∧ k < tb) wn (.slice (some ⟨g4, 0, none⟩) n c4) bk ∧ w.heap.size + 2 ≤ ta ∧ tb ≤ wn.heap.size) := ⟨HT.out.1, HT.out.2.1.later bn, HT.out.2.2.1, Nat.le_trans HT.out.2.2.2 bn.size⟩
          have HOn : Hid (wn.ownsRow (w.heap.size + 2) 3 1 (.slice (some ⟨gf, 0, none⟩) n n) n (I64 (nz (List.replicate n NW))) ∧ tb ≤ gf) := ⟨O.own_later HO.out.1 bn, HO.out.2⟩
          have H8n : Hid (VBx wn b8 nils 72 ∧ w.heap.size + 2 ≤ b8) := ⟨H8.out.1.later bn, H8.out.2⟩
          rw [eb]
          clear ewn hnew bn eb
          clear HB HG HL HT HO H8
          have HB := HBn
          have HG := HGn
          have HL := HLn
          have HT := HTn
          have HO := HOn
          have H8 := H8n
          clear HBn HGn HLn HTn HOn H8n
          refine hKc.out _ _ ⟨HG.out.c0, HG.out.c1⟩ (fun hHeld => ?_)
          clear hKc Kc
          generalize wn = wd at *
          try simp only [Act.put, List.setIfInBounds_toArray, List.set_cons_zero, List.set_cons_succ]

          refine wpAnyH_ready (rs := [6]) (by kernel_rfl) (by simp) ?_
          refine AllReadyH.cons (by simp; rfl) (fun Kc hKc => ?_) AllReadyH.nil
          have d0 := H7.out.1.c0
          have d1 := H7.out.1.c1
          have f0 := H7.out.1.f0 0
          have f1 := H7.out.1.f0 1
          go_simp
          clear d0 d1 f0 f1
          obtain ⟨wn, ewn⟩ : ∃ wn, (wd.setCell ⟨b7, 0, none⟩ (.slice tp tn tc)).setCell ⟨b7, 1, none⟩ (.slice (some ⟨g4, 0, none⟩) n c4) = wn := ⟨_, rfl⟩
          have hk : Kept (· = b7) wd wn := by rw [← ewn]; exact kept_two b7 _ _
          have hnew : GBx wn b7 (.slice tp tn tc) (.slice (some ⟨g4, 0, none⟩) n c4) := by rw [← ewn]; exact H7.out.1.put _ _
          rw [ewn]
          have h7 := H7.out.2
          have H7n : Hid (GBx wn b7 (.slice tp tn tc) (.slice (some ⟨g4, 0, none⟩) n c4) ∧ w.heap.size + 2 ≤ b7) := ⟨hnew, h7⟩
          have HBn : Hid (RowKit.Below w.heap.size w wn) := hk.into HB.out (fun b hb e => by omega) (Nat.le_refl _)
          have HGn : Hid (GBx wn w.heap.size (.slice tp tn tc) (.slice (some ⟨g, 0, none⟩) n cg)) := HG.out.far hk (by omega)
          have HLn : Hid (VBx wn (w.heap.size + 1) (.int .i64 9223372036854775807) 3) := HL.out.far hk (by omega)
          have HTn : Hid (Tnd nx bk ∧ NIn (fun k => ta ≤ k ∧ k < tb) wn (.slice (some ⟨g4, 0, none⟩) n c4) bk ∧ w.heap.size + 2 ≤ ta ∧ tb ≤ wn.heap.size) := ⟨HT.out.1, HT.out.2.1.far hk (fun k hk2 e => by subst e; exact absurd hk2 (by have := H7B.out; omega)), HT.out.2.2.1, Nat.le_trans HT.out.2.2.2 hk.size⟩
          have HOn : Hid (wn.ownsRow (w.heap.size + 2) 3 1 (.slice (some ⟨gf, 0, none⟩) n n) n (I64 (nz (List.replicate n NW))) ∧ tb ≤ gf) := ⟨O.own_far HO.out.1 hk fun b hb e => O.own_not HO.out.1 H7.out.1 (by decide) (by rw [← e]; exact hb), HO.out.2⟩
          have H8n : Hid (VBx wn b8 nils 72 ∧ w.heap.size + 2 ≤ b8) := ⟨H8.out.1.far hk (fun e => by have h1 : wd.heap[b8]? = _ := H8.out.1; have h2 : wd.heap[b7]? = _ := H7.out.1; rw [e, h2] at h1; simp at h1), H8.out.2⟩
          clear hk hnew ewn h7
          clear HB HG HL HT HO H7 H8
          have HB := HBn
          have HG := HGn
          have HL := HLn
          have HT := HTn
          have HO := HOn
          have H7 := H7n
          have H8 := H8n
          clear HBn HGn HLn HTn HOn H7n H8n
          refine hKc.out _ _ ⟨HG.out.c0, HG.out.c1⟩ (fun hHeld => ?_)
          clear hKc Kc
          generalize wn = wd at *
          try simp only [Act.put]

          refine wpAnyH_ready (rs := [7]) (by kernel_rfl) (by simp) ?_
          refine AllReadyH.cons (by simp; rfl) (fun Kc hKc => ?_) AllReadyH.nil
          have d0 := H8.out.1.c
          have f0 := H8.out.1.f
          go_simp
          clear d0 f0
          obtain ⟨wn, ewn⟩ : ∃ wn, wd.setCell ⟨b8, 0, none⟩ (.slice (some ⟨gf, 0, none⟩) n n) = wn := ⟨_, rfl⟩
          have hk : Kept (· = b8) wd wn := by rw [← ewn]; exact Kept.setCell b8 0 _
          have hnew : VBx wn b8 (.slice (some ⟨gf, 0, none⟩) n n) 72 := by rw [← ewn]; exact H8.out.1.put _
          rw [ewn]
          have h8 := H8.out.2
          have HGn : Hid (GBx wn w.heap.size (.slice tp tn tc) (.slice (some ⟨g, 0, none⟩) n cg)) := HG.out.far hk (by omega)
          have HR : Hid (Lra w wn n b7 b8 gf (.slice tp tn tc) (.slice (some ⟨g, 0, none⟩) n cg) (.slice (some ⟨g4, 0, none⟩) n c4) S (fun k => ta ≤ k ∧ k < tb) nx bk) := {
            bel := hk.into HB.out (fun b hb e => by omega) (Nat.le_refl _)
            gx := HGn.out
            le := HL.out.far hk (by omega)
            bx := H7.out.1.far hk (fun e => by have h1 : wd.heap[b8]? = _ := H8.out.1; have h2 : wd.heap[b7]? = _ := H7.out.1; rw [← e, h2] at h1; simp at h1)
            fx := hnew
            nin := HT.out.2.1.far hk (fun k hk2 e => by subst e; exact absurd hk2 (by have := H8B.out; omega))
            tnd := HT.out.1
            own := O.own_far HO.out.1 hk fun b hb e => O.own_not HO.out.1 H8.out.1 (by decide) (by rw [← e]; exact hb)
            l7 := H7.out.2
            l8 := h8
            lf := by have := (HO.out.1.lt gf rfl).1; omega
            tf := fun h => by have := HO.out.2; omega
            tl := fun k h => by have := HT.out.2.2.1; omega }
          clear HG HB HL HT HO H7 H8 hk hnew ewn h8
          refine hKc.out _ _ ⟨HGn.out.c0, HGn.out.c1⟩ (fun hHeld => ?_)
          clear hKc Kc HGn
          generalize wn = wd at *
          try simp only [Act.put]

          refine wpAnyH_done (by kernel_rfl) (NoPanic.normal ?_) _
          clear hHeld
          go_wp2_with fail
          go_meet
          case rel => exact ⟨b7, b8, gf, g4, c4, _, bk, rfl, rfl, HR⟩
      · go_simp
        obtain ⟨wn, ewn⟩ : ∃ wn, wd.alloc (Obj.cells #[nils, nils] 70) = wn := ⟨_, rfl⟩
        have bn : RowKit.Below wd.heap.size wd wn := by rw [← ewn]; exact below_alloc wd _
        have hnew : GBx wn wd.heap.size nils nils := by rw [← ewn]; exact GBx.new wd nils nils
        rw [ewn]
        obtain ⟨b7, eb⟩ : ∃ b, wd.heap.size = b := ⟨_, rfl⟩
        have H7 : Hid (GBx wn b7 nils nils ∧ w.heap.size + 2 ≤ b7) := ⟨by rw [← eb]; exact hnew, by have := HL.out.lt; omega⟩
        have H7B : Hid (¬ (ta ≤ b7 ∧ b7 < tb)) := fun h => by have := HT.out.2.2.2; omega
        have HBn : Hid (RowKit.Below w.heap.size w wn) := below_then2 HB.out bn
        have HGn : Hid (GBx wn w.heap.size (.slice tp tn tc) (.slice (some ⟨g, 0, none⟩) n cg)) := HG.out.later bn
        have HLn : Hid (VBx wn (w.heap.size + 1) (.int .i64 9223372036854775807) 3) := HL.out.later bn
        have HTn : Hid (Tnd nx bk ∧ NIn (fun k => ta ≤ k ∧ k < tb) wn (.slice (some ⟨g4, 0, none⟩) n c4) bk ∧ w.heap.size + 2 ≤ ta ∧ tb ≤ wn.heap.size) := ⟨HT.out.1, HT.out.2.1.later bn, HT.out.2.2.1, Nat.le_trans HT.out.2.2.2 bn.size⟩
        rw [eb]
        clear ewn hnew bn eb
        clear HB HG HL HT
        have HB := HBn
        have HG := HGn
        have HL := HLn
        have HT := HTn
        clear HBn HGn HLn HTn
        refine hKc.out _ _ ⟨HG.out.c0, HG.out.c1⟩ (fun hHeld => ?_)
        clear hKc Kc
        generalize wn = wd at *
        try simp only [Act.put, List.setIfInBounds_toArray, List.set_cons_zero, List.set_cons_succ]

        refine wpAnyH_ready (rs := [3, 5]) (by kernel_rfl) (by simp) ?_
        refine AllReadyH.cons (by simp; rfl) (fun Kc hKc => ?_) (AllReadyH.cons (by simp; rfl) (fun Kc hKc => ?_) AllReadyH.nil)
        · go_simp
          refine (unreached_at hz).mono ?_
          rintro e wn ⟨gf, rfl, bn, hO⟩
          have HBn : Hid (RowKit.Below w.heap.size w wn) := below_then2 HB.out bn
          have HGn : Hid (GBx wn w.heap.size (.slice tp tn tc) (.slice (some ⟨g, 0, none⟩) n cg)) := HG.out.later bn
          have HLn : Hid (VBx wn (w.heap.size + 1) (.int .i64 9223372036854775807) 3) := HL.out.later bn
          have HTn : Hid (Tnd nx bk ∧ NIn (fun k => ta ≤ k ∧ k < tb) wn (.slice (some ⟨g4, 0, none⟩) n c4) bk ∧ w.heap.size + 2 ≤ ta ∧ tb ≤ wn.heap.size) := ⟨HT.out.1, HT.out.2.1.later bn, HT.out.2.2.1, Nat.le_trans HT.out.2.2.2 bn.size⟩
          have H7n : Hid (GBx wn b7 nils nils ∧ w.heap.size + 2 ≤ b7) := ⟨H7.out.1.later bn, H7.out.2⟩
          have HO : Hid (wn.ownsRow (w.heap.size + 2) 3 1 (.slice (some ⟨gf, 0, none⟩) n n) n (I64 (nz (List.replicate n NW))) ∧ tb ≤ gf) := ⟨B.own_mono hO (by have := HT.out.2.2; have := HL.out.lt; omega), by have := (hO.lt gf rfl).1; have := HT.out.2.2.2; omega⟩
          clear hO bn
          clear HB HG HL HT H7
          have HB := HBn
          have HG := HGn
          have HL := HLn
          have HT := HTn
          have H7 := H7n
          clear HBn HGn HLn HTn H7n
          refine hKc.out _ _ ⟨HG.out.c0, HG.out.c1⟩ (fun hHeld => ?_)
          clear hKc Kc
          generalize wn = wd at *
          try simp only [Act.put, List.setIfInBounds_toArray, List.set_cons_zero, List.set_cons_succ]

          refine wpAnyH_ready (rs := [5]) (by kernel_rfl) (by simp) ?_
          refine AllReadyH.cons (by simp; rfl) (fun Kc hKc => ?_) AllReadyH.nil
          go_simp
          obtain ⟨wn, ewn⟩ : ∃ wn, wd.alloc (Obj.cells #[nils] 72) = wn := ⟨_, rfl⟩
          have bn : RowKit.Below wd.heap.size wd wn := by rw [← ewn]; exact below_alloc wd _
          have hnew : VBx wn wd.heap.size nils 72 := by rw [← ewn]; exact VBx.new wd nils 72
          rw [ewn]
          obtain ⟨b8, eb⟩ : ∃ b, wd.heap.size = b := ⟨_, rfl⟩
          have H8 : Hid (VBx wn b8 nils 72 ∧ w.heap.size + 2 ≤ b8) := ⟨by rw [← eb]; exact hnew, by have := HL.out.lt; omega⟩
          have H8B : Hid (¬ (ta ≤ b8 ∧ b8 < tb)) := fun h => by have := HT.out.2.2.2; omega
          have HBn : Hid (RowKit.Below w.heap.size w wn) := below_then2 HB.out bn
          have HGn : Hid (GBx wn w.heap.size (.slice tp tn tc) (.slice (some ⟨g, 0, none⟩) n cg)) := HG.out.later bn
          have HLn : Hid (VBx wn (w.heap.size + 1) (.int .i64 9223372036854775807) 3) := HL.out.later bn
          have HTn : Hid (Tnd nx bk ∧ NIn (fun k => ta ≤ k ∧ k < tb) wn (.slice (some ⟨g4, 0, none⟩) n c4) bk ∧ w.heap.size + 2 ≤ ta ∧ tb ≤ wn.heap.size) := ⟨HT.out.1, HT.out.2.1.later bn, HT.out.2.2.1, Nat.le_trans HT.out.2.2.2 bn.size⟩
          have HOn : Hid (wn.ownsRow (w.heap.size + 2) 3 1 (.slice (some ⟨gf, 0, none⟩) n n) n (I64 (nz (List.replicate n NW))) ∧ tb ≤ gf) := ⟨O.own_later HO.out.1 bn, HO.out.2⟩
          have H7n : Hid (GBx wn b7 nils nils ∧ w.heap.size + 2 ≤ b7) := ⟨H7.out.1.later bn, H7.out.2⟩
          rw [eb]
          clear ewn hnew bn eb
          clear HB HG HL HT HO H7
          have HB := HBn
          have HG := HGn
          have HL := HLn
          have HT := HTn
          have HO := HOn
          have H7 := H7n
          clear HBn HGn HLn HTn HOn H7n
          refine hKc.out _ _ ⟨HG.out.c0, HG.out.c1⟩ (fun hHeld => ?_)
          clear hKc Kc
          generalize wn = wd at *
          try simp only [Act.put, List.setIfInBounds_toArray, List.set_cons_zero, List.set_cons_succ]

          refine wpAnyH_ready (rs := [6]) (by kernel_rfl) (by simp) ?_
          refine AllReadyH.cons (by simp; rfl) (fun Kc hKc => ?_) AllReadyH.nil
          have d0 := H7.out.1.c0
          have d1 := H7.out.1.c1
          have f0 := H7.out.1.f0 0
          have f1 := H7.out.1.f0 1
          go_simp
          clear d0 d1 f0 f1
          obtain ⟨wn, ewn⟩ : ∃ wn, (wd.setCell ⟨b7, 0, none⟩ (.slice tp tn tc)).setCell ⟨b7, 1, none⟩ (.slice (some ⟨g4, 0, none⟩) n c4) = wn := ⟨_, rfl⟩
          have hk : Kept (· = b7) wd wn := by rw [← ewn]; exact kept_two b7 _ _
          have hnew : GBx wn b7 (.slice tp tn tc) (.slice (some ⟨g4, 0, none⟩) n c4) := by rw [← ewn]; exact H7.out.1.put _ _
          rw [ewn]
          have h7 := H7.out.2
          have H7n : Hid (GBx wn b7 (.slice tp tn tc) (.slice (some ⟨g4, 0, none⟩) n c4) ∧ w.heap.size + 2 ≤ b7) := ⟨hnew, h7⟩
          have HBn : Hid (RowKit.Below w.heap.size w wn) := hk.into HB.out (fun b hb e => by omega) (Nat.le_refl _)
          have HGn : Hid (GBx wn w.heap.size (.slice tp tn tc) (.slice (some ⟨g, 0, none⟩) n cg)) := HG.out.far hk (by omega)
          have HLn : Hid (VBx wn (w.heap.size + 1) (.int .i64 9223372036854775807) 3) := HL.out.far hk (by omega)
          have HTn : Hid (Tnd nx bk ∧ NIn (fun k => ta ≤ k ∧ k < tb) wn (.slice (some ⟨g4, 0, none⟩) n c4) bk ∧ w.heap.size + 2 ≤ ta ∧ tb ≤ wn.heap.size) := ⟨HT.out.1, HT.out.2.1.far hk (fun k hk2 e => by subst e; exact absurd hk2 (by have := H7B.out; omega)), HT.out.2.2.1, Nat.le_trans HT.out.2.2.2 hk.size⟩
          have HOn : Hid (wn.ownsRow (w.heap.size + 2) 3 1 (.slice (some ⟨gf, 0, none⟩) n n) n (I64 (nz (List.replicate n NW))) ∧ tb ≤ gf) := ⟨O.own_far HO.out.1 hk fun b hb e => O.own_not HO.out.1 H7.out.1 (by decide) (by rw [← e]; exact hb), HO.out.2⟩
          have H8n : Hid (VBx wn b8 nils 72 ∧ w.heap.size + 2 ≤ b8) := ⟨H8.out.1.far hk (fun e => by have h1 : wd.heap[b8]? = _ := H8.out.1; have h2 : wd.heap[b7]? = _ := H7.out.1; rw [e, h2] at h1; simp at h1), H8.out.2⟩
          clear hk hnew ewn h7
          clear HB HG HL HT HO H7 H8
          have HB := HBn
          have HG := HGn
          have HL := HLn
          have HT := HTn
          have HO := HOn
          have H7 := H7n
          have H8 := H8n
          clear HBn HGn HLn HTn HOn H7n H8n
          refine hKc.out _ _ ⟨HG.out.c0, HG.out.c1⟩ (fun hHeld => ?_)
          clear hKc Kc
          generalize wn = wd at *
          try simp only [Act.put]

          refine wpAnyH_ready (rs := [7]) (by kernel_rfl) (by simp) ?_
          refine AllReadyH.cons (by simp; rfl) (fun Kc hKc => ?_) AllReadyH.nil
          have d0 := H8.out.1.c
          have f0 := H8.out.1.f
          go_simp
          clear d0 f0
          obtain ⟨wn, ewn⟩ : ∃ wn, wd.setCell ⟨b8, 0, none⟩ (.slice (some ⟨gf, 0, none⟩) n n) = wn := ⟨_, rfl⟩
          have hk : Kept (· = b8) wd wn := by rw [← ewn]; exact Kept.setCell b8 0 _
          have hnew : VBx wn b8 (.slice (some ⟨gf, 0, none⟩) n n) 72 := by rw [← ewn]; exact H8.out.1.put _
          rw [ewn]
          have h8 := H8.out.2
          have HGn : Hid (GBx wn w.heap.size (.slice tp tn tc) (.slice (some ⟨g, 0, none⟩) n cg)) := HG.out.far hk (by omega)
          have HR : Hid (Lra w wn n b7 b8 gf (.slice tp tn tc) (.slice (some ⟨g, 0, none⟩) n cg) (.slice (some ⟨g4, 0, none⟩) n c4) S (fun k => ta ≤ k ∧ k < tb) nx bk) := {
            bel := hk.into HB.out (fun b hb e => by omega) (Nat.le_refl _)
            gx := HGn.out
            le := HL.out.far hk (by omega)
            bx := H7.out.1.far hk (fun e => by have h1 : wd.heap[b8]? = _ := H8.out.1; have h2 : wd.heap[b7]? = _ := H7.out.1; rw [← e, h2] at h1; simp at h1)
            fx := hnew
            nin := HT.out.2.1.far hk (fun k hk2 e => by subst e; exact absurd hk2 (by have := H8B.out; omega))
            tnd := HT.out.1
            own := O.own_far HO.out.1 hk fun b hb e => O.own_not HO.out.1 H8.out.1 (by decide) (by rw [← e]; exact hb)
            l7 := H7.out.2
            l8 := h8
            lf := by have := (HO.out.1.lt gf rfl).1; omega
            tf := fun h => by have := HO.out.2; omega
            tl := fun k h => by have := HT.out.2.2.1; omega }
          clear HG HB HL HT HO H7 H8 hk hnew ewn h8
          refine hKc.out _ _ ⟨HGn.out.c0, HGn.out.c1⟩ (fun hHeld => ?_)
          clear hKc Kc HGn
          generalize wn = wd at *
          try simp only [Act.put]

          refine wpAnyH_done (by kernel_rfl) (NoPanic.normal ?_) _
          clear hHeld
          go_wp2_with fail
          go_meet
          case rel => exact ⟨b7, b8, gf, g4, c4, _, bk, rfl, rfl, HR⟩
        · go_simp
          obtain ⟨wn, ewn⟩ : ∃ wn, wd.alloc (Obj.cells #[nils] 72) = wn := ⟨_, rfl⟩
          have bn : RowKit.Below wd.heap.size wd wn := by rw [← ewn]; exact below_alloc wd _
          have hnew : VBx wn wd.heap.size nils 72 := by rw [← ewn]; exact VBx.new wd nils 72
          rw [ewn]
          obtain ⟨b8, eb⟩ : ∃ b, wd.heap.size = b := ⟨_, rfl⟩
          have H8 : Hid (VBx wn b8 nils 72 ∧ w.heap.size + 2 ≤ b8) := ⟨by rw [← eb]; exact hnew, by have := HL.out.lt; omega⟩
          have H8B : Hid (¬ (ta ≤ b8 ∧ b8 < tb)) := fun h => by have := HT.out.2.2.2; omega
          have HBn : Hid (RowKit.Below w.heap.size w wn) := below_then2 HB.out bn
          have HGn : Hid (GBx wn w.heap.size (.slice tp tn tc) (.slice (some ⟨g, 0, none⟩) n cg)) := HG.out.later bn
          have HLn : Hid (VBx wn (w.heap.size + 1) (.int .i64 9223372036854775807) 3) := HL.out.later bn
          have HTn : Hid (Tnd nx bk ∧ NIn (fun k => ta ≤ k ∧ k < tb) wn (.slice (some ⟨g4, 0, none⟩) n c4) bk ∧ w.heap.size + 2 ≤ ta ∧ tb ≤ wn.heap.size) := ⟨HT.out.1, HT.out.2.1.later bn, HT.out.2.2.1, Nat.le_trans HT.out.2.2.2 bn.size⟩
          have H7n : Hid (GBx wn b7 nils nils ∧ w.heap.size + 2 ≤ b7) := ⟨H7.out.1.later bn, H7.out.2⟩
          rw [eb]
          clear ewn hnew bn eb
          clear HB HG HL HT H7
          have HB := HBn
          have HG := HGn
          have HL := HLn
          have HT := HTn
          have H7 := H7n
          clear HBn HGn HLn HTn H7n
          refine hKc.out _ _ ⟨HG.out.c0, HG.out.c1⟩ (fun hHeld => ?_)
          clear hKc Kc
          generalize wn = wd at *
          try simp only [Act.put, List.setIfInBounds_toArray, List.set_cons_zero, List.set_cons_succ]

          refine wpAnyH_ready (rs := [3]) (by kernel_rfl) (by simp) ?_
          refine AllReadyH.cons (by simp; rfl) (fun Kc hKc => ?_) AllReadyH.nil
          go_simp
          refine (unreached_at hz).mono ?_
          rintro e wn ⟨gf, rfl, bn, hO⟩
          have HBn : Hid (RowKit.Below w.heap.size w wn) := below_then2 HB.out bn
          have HGn : Hid (GBx wn w.heap.size (.slice tp tn tc) (.slice (some ⟨g, 0, none⟩) n cg)) := HG.out.later bn
          have HLn : Hid (VBx wn (w.heap.size + 1) (.int .i64 9223372036854775807) 3) := HL.out.later bn
          have HTn : Hid (Tnd nx bk ∧ NIn (fun k => ta ≤ k ∧ k < tb) wn (.slice (some ⟨g4, 0, none⟩) n c4) bk ∧ w.heap.size + 2 ≤ ta ∧ tb ≤ wn.heap.size) := ⟨HT.out.1, HT.out.2.1.later bn, HT.out.2.2.1, Nat.le_trans HT.out.2.2.2 bn.size⟩
          have H7n : Hid (GBx wn b7 nils nils ∧ w.heap.size + 2 ≤ b7) := ⟨H7.out.1.later bn, H7.out.2⟩
          have H8n : Hid (VBx wn b8 nils 72 ∧ w.heap.size + 2 ≤ b8) := ⟨H8.out.1.later bn, H8.out.2⟩
          have HO : Hid (wn.ownsRow (w.heap.size + 2) 3 1 (.slice (some ⟨gf, 0, none⟩) n n) n (I64 (nz (List.replicate n NW))) ∧ tb ≤ gf) := ⟨B.own_mono hO (by have := HT.out.2.2; have := HL.out.lt; omega), by have := (hO.lt gf rfl).1; have := HT.out.2.2.2; omega⟩
          clear hO bn
          clear HB HG HL HT H7 H8
          have HB := HBn
          have HG := HGn
          have HL := HLn
          have HT := HTn
          have H7 := H7n
          have H8 := H8n
          clear HBn HGn HLn HTn H7n H8n
          refine hKc.out _ _ ⟨HG.out.c0, HG.out.c1⟩ (fun hHeld => ?_)
          clear hKc Kc
          generalize wn = wd at *
          try simp only [Act.put, List.setIfInBounds_toArray, List.set_cons_zero, List.set_cons_succ]

          refine wpAnyH_ready (rs := [6]) (by kernel_rfl) (by simp) ?_
          refine AllReadyH.cons (by simp; rfl) (fun Kc hKc => ?_) AllReadyH.nil
          have d0 := H7.out.1.c0
          have d1 := H7.out.1.c1
          have f0 := H7.out.1.f0 0
          have f1 := H7.out.1.f0 1
          go_simp
          clear d0 d1 f0 f1
          obtain ⟨wn, ewn⟩ : ∃ wn, (wd.setCell ⟨b7, 0, none⟩ (.slice tp tn tc)).setCell ⟨b7, 1, none⟩ (.slice (some ⟨g4, 0, none⟩) n c4) = wn := ⟨_, rfl⟩
          have hk : Kept (· = b7) wd wn := by rw [← ewn]; exact kept_two b7 _ _
          have hnew : GBx wn b7 (.slice tp tn tc) (.slice (some ⟨g4, 0, none⟩) n c4) := by rw [← ewn]; exact H7.out.1.put _ _
          rw [ewn]
          have h7 := H7.out.2
          have H7n : Hid (GBx wn b7 (.slice tp tn tc) (.slice (some ⟨g4, 0, none⟩) n c4) ∧ w.heap.size + 2 ≤ b7) := ⟨hnew, h7⟩
          have HBn : Hid (RowKit.Below w.heap.size w wn) := hk.into HB.out (fun b hb e => by omega) (Nat.le_refl _)
          have HGn : Hid (GBx wn w.heap.size (.slice tp tn tc) (.slice (some ⟨g, 0, none⟩) n cg)) := HG.out.far hk (by omega)
          have HLn : Hid (VBx wn (w.heap.size + 1) (.int .i64 9223372036854775807) 3) := HL.out.far hk (by omega)
          have HTn : Hid (Tnd nx bk ∧ NIn (fun k => ta ≤ k ∧ k < tb) wn (.slice (some ⟨g4, 0, none⟩) n c4) bk ∧ w.heap.size + 2 ≤ ta ∧ tb ≤ wn.heap.size) := ⟨HT.out.1, HT.out.2.1.far hk (fun k hk2 e => by subst e; exact absurd hk2 (by have := H7B.out; omega)), HT.out.2.2.1, Nat.le_trans HT.out.2.2.2 hk.size⟩
          have HOn : Hid (wn.ownsRow (w.heap.size + 2) 3 1 (.slice (some ⟨gf, 0, none⟩) n n) n (I64 (nz (List.replicate n NW))) ∧ tb ≤ gf) := ⟨O.own_far HO.out.1 hk fun b hb e => O.own_not HO.out.1 H7.out.1 (by decide) (by rw [← e]; exact hb), HO.out.2⟩
          have H8n : Hid (VBx wn b8 nils 72 ∧ w.heap.size + 2 ≤ b8) := ⟨H8.out.1.far hk (fun e => by have h1 : wd.heap[b8]? = _ := H8.out.1; have h2 : wd.heap[b7]? = _ := H7.out.1; rw [e, h2] at h1; simp at h1), H8.out.2⟩
          clear hk hnew ewn h7
          clear HB HG HL HT HO H7 H8
          have HB := HBn
          have HG := HGn
          have HL := HLn
          have HT := HTn
          have HO := HOn
          have H7 := H7n
          have H8 := H8n
          clear HBn HGn HLn HTn HOn H7n H8n
          refine hKc.out _ _ ⟨HG.out.c0, HG.out.c1⟩ (fun hHeld => ?_)
          clear hKc Kc
          generalize wn = wd at *
          try simp only [Act.put]

          refine wpAnyH_ready (rs := [7]) (by kernel_rfl) (by simp) ?_
          refine AllReadyH.cons (by simp; rfl) (fun Kc hKc => ?_) AllReadyH.nil
          have d0 := H8.out.1.c
          have f0 := H8.out.1.f
          go_simp
          clear d0 f0
          obtain ⟨wn, ewn⟩ : ∃ wn, wd.setCell ⟨b8, 0, none⟩ (.slice (some ⟨gf, 0, none⟩) n n) = wn := ⟨_, rfl⟩
          have hk : Kept (· = b8) wd wn := by rw [← ewn]; exact Kept.setCell b8 0 _
          have hnew : VBx wn b8 (.slice (some ⟨gf, 0, none⟩) n n) 72 := by rw [← ewn]; exact H8.out.1.put _
          rw [ewn]
          have h8 := H8.out.2
          have HGn : Hid (GBx wn w.heap.size (.slice tp tn tc) (.slice (some ⟨g, 0, none⟩) n cg)) := HG.out.far hk (by omega)
          have HR : Hid (Lra w wn n b7 b8 gf (.slice tp tn tc) (.slice (some ⟨g, 0, none⟩) n cg) (.slice (some ⟨g4, 0, none⟩) n c4) S (fun k => ta ≤ k ∧ k < tb) nx bk) := {
            bel := hk.into HB.out (fun b hb e => by omega) (Nat.le_refl _)
            gx := HGn.out
            le := HL.out.far hk (by omega)
            bx := H7.out.1.far hk (fun e => by have h1 : wd.heap[b8]? = _ := H8.out.1; have h2 : wd.heap[b7]? = _ := H7.out.1; rw [← e, h2] at h1; simp at h1)
            fx := hnew
            nin := HT.out.2.1.far hk (fun k hk2 e => by subst e; exact absurd hk2 (by have := H8B.out; omega))
            tnd := HT.out.1
            own := O.own_far HO.out.1 hk fun b hb e => O.own_not HO.out.1 H8.out.1 (by decide) (by rw [← e]; exact hb)
            l7 := H7.out.2
            l8 := h8
            lf := by have := (HO.out.1.lt gf rfl).1; omega
            tf := fun h => by have := HO.out.2; omega
            tl := fun k h => by have := HT.out.2.2.1; omega }
          clear HG HB HL HT HO H7 H8 hk hnew ewn h8
          refine hKc.out _ _ ⟨HGn.out.c0, HGn.out.c1⟩ (fun hHeld => ?_)
          clear hKc Kc HGn
          generalize wn = wd at *
          try simp only [Act.put]

          refine wpAnyH_done (by kernel_rfl) (NoPanic.normal ?_) _
          clear hHeld
          go_wp2_with fail
          go_meet
          case rel => exact ⟨b7, b8, gf, g4, c4, _, bk, rfl, rfl, HR⟩
      · go_simp
        obtain ⟨wn, ewn⟩ : ∃ wn, wd.alloc (Obj.cells #[nils] 72) = wn := ⟨_, rfl⟩
        have bn : RowKit.Below wd.heap.size wd wn := by rw [← ewn]; exact below_alloc wd _
        have hnew : VBx wn wd.heap.size nils 72 := by rw [← ewn]; exact VBx.new wd nils 72
        rw [ewn]
        obtain ⟨b8, eb⟩ : ∃ b, wd.heap.size = b := ⟨_, rfl⟩
        have H8 : Hid (VBx wn b8 nils 72 ∧ w.heap.size + 2 ≤ b8) := ⟨by rw [← eb]; exact hnew, by have := HL.out.lt; omega⟩
        have H8B : Hid (¬ (ta ≤ b8 ∧ b8 < tb)) := fun h => by have := HT.out.2.2.2; omega
        have HBn : Hid (RowKit.Below w.heap.size w wn) := below_then2 HB.out bn
        have HGn : Hid (GBx wn w.heap.size (.slice tp tn tc) (.slice (some ⟨g, 0, none⟩) n cg)) := HG.out.later bn
        have HLn : Hid (VBx wn (w.heap.size + 1) (.int .i64 9223372036854775807) 3) := HL.out.later bn
        have HTn : Hid (Tnd nx bk ∧ NIn (fun k => ta ≤ k ∧ k < tb) wn (.slice (some ⟨g4, 0, none⟩) n c4) bk ∧ w.heap.size + 2 ≤ ta ∧ tb ≤ wn.heap.size) := ⟨HT.out.1, HT.out.2.1.later bn, HT.out.2.2.1, Nat.le_trans HT.out.2.2.2 bn.size⟩
        rw [eb]
        clear ewn hnew bn eb
        clear HB HG HL HT
        have HB := HBn
        have HG := HGn
        have HL := HLn
        have HT := HTn
        clear HBn HGn HLn HTn
        refine hKc.out _ _ ⟨HG.out.c0, HG.out.c1⟩ (fun hHeld => ?_)
        clear hKc Kc
        generalize wn = wd at *
        try simp only [Act.put, List.setIfInBounds_toArray, List.set_cons_zero, List.set_cons_succ]

        refine wpAnyH_ready (rs := [3, 4]) (by kernel_rfl) (by simp) ?_
        refine AllReadyH.cons (by simp; rfl) (fun Kc hKc => ?_) (AllReadyH.cons (by simp; rfl) (fun Kc hKc => ?_) AllReadyH.nil)
        · go_simp
          refine (unreached_at hz).mono ?_
          rintro e wn ⟨gf, rfl, bn, hO⟩
          have HBn : Hid (RowKit.Below w.heap.size w wn) := below_then2 HB.out bn
          have HGn : Hid (GBx wn w.heap.size (.slice tp tn tc) (.slice (some ⟨g, 0, none⟩) n cg)) := HG.out.later bn
          have HLn : Hid (VBx wn (w.heap.size + 1) (.int .i64 9223372036854775807) 3) := HL.out.later bn
          have HTn : Hid (Tnd nx bk ∧ NIn (fun k => ta ≤ k ∧ k < tb) wn (.slice (some ⟨g4, 0, none⟩) n c4) bk ∧ w.heap.size + 2 ≤ ta ∧ tb ≤ wn.heap.size) := ⟨HT.out.1, HT.out.2.1.later bn, HT.out.2.2.1, Nat.le_trans HT.out.2.2.2 bn.size⟩
          have H8n : Hid (VBx wn b8 nils 72 ∧ w.heap.size + 2 ≤ b8) := ⟨H8.out.1.later bn, H8.out.2⟩
          have HO : Hid (wn.ownsRow (w.heap.size + 2) 3 1 (.slice (some ⟨gf, 0, none⟩) n n) n (I64 (nz (List.replicate n NW))) ∧ tb ≤ gf) := ⟨B.own_mono hO (by have := HT.out.2.2; have := HL.out.lt; omega), by have := (hO.lt gf rfl).1; have := HT.out.2.2.2; omega⟩
          clear hO bn
          clear HB HG HL HT H8
          have HB := HBn
          have HG := HGn
          have HL := HLn
          have HT := HTn
          have H8 := H8n
          clear HBn HGn HLn HTn H8n
          refine hKc.out _ _ ⟨HG.out.c0, HG.out.c1⟩ (fun hHeld => ?_)
          clear hKc Kc
          generalize wn = wd at *
          try simp only [Act.put, List.setIfInBounds_toArray, List.set_cons_zero, List.set_cons_succ]

          refine wpAnyH_ready (rs := [4]) (by kernel_rfl) (by simp) ?_
          refine AllReadyH.cons (by simp; rfl) (fun Kc hKc => ?_) AllReadyH.nil
          go_simp
          obtain ⟨wn, ewn⟩ : ∃ wn, wd.alloc (Obj.cells #[nils, nils] 70) = wn := ⟨_, rfl⟩
          have bn : RowKit.Below wd.heap.size wd wn := by rw [← ewn]; exact below_alloc wd _
          have hnew : GBx wn wd.heap.size nils nils := by rw [← ewn]; exact GBx.new wd nils nils
          rw [ewn]
          obtain ⟨b7, eb⟩ : ∃ b, wd.heap.size = b := ⟨_, rfl⟩
          have H7 : Hid (GBx wn b7 nils nils ∧ w.heap.size + 2 ≤ b7) := ⟨by rw [← eb]; exact hnew, by have := HL.out.lt; omega⟩
          have H7B : Hid (¬ (ta ≤ b7 ∧ b7 < tb)) := fun h => by have := HT.out.2.2.2; omega
          have HBn : Hid (RowKit.Below w.heap.size w wn) := below_then2 HB.out bn
          have HGn : Hid (GBx wn w.heap.size (.slice tp tn tc) (.slice (some ⟨g, 0, none⟩) n cg)) := HG.out.later bn
          have HLn : Hid (VBx wn (w.heap.size + 1) (.int .i64 9223372036854775807) 3) := HL.out.later bn
          have HTn : Hid (Tnd nx bk ∧ NIn (fun k => ta ≤ k ∧ k < tb) wn (.slice (some ⟨g4, 0, none⟩) n c4) bk ∧ w.heap.size + 2 ≤ ta ∧ tb ≤ wn.heap.size) := ⟨HT.out.1, HT.out.2.1.later bn, HT.out.2.2.1, Nat.le_trans HT.out.2.2.2 bn.size⟩
          have HOn : Hid (wn.ownsRow (w.heap.size + 2) 3 1 (.slice (some ⟨gf, 0, none⟩) n n) n (I64 (nz (List.replicate n NW))) ∧ tb ≤ gf) := ⟨O.own_later HO.out.1 bn, HO.out.2⟩
          have H8n : Hid (VBx wn b8 nils 72 ∧ w.heap.size + 2 ≤ b8) := ⟨H8.out.1.later bn, H8.out.2⟩
          rw [eb]
          clear ewn hnew bn eb
          clear HB HG HL HT HO H8
          have HB := HBn
          have HG := HGn
          have HL := HLn
          have HT := HTn
          have HO := HOn
          have H8 := H8n
          clear HBn HGn HLn HTn HOn H8n
          refine hKc.out _ _ ⟨HG.out.c0, HG.out.c1⟩ (fun hHeld => ?_)
          clear hKc Kc
          generalize wn = wd at *
          try simp only [Act.put, List.setIfInBounds_toArray, List.set_cons_zero, List.set_cons_succ]

          refine wpAnyH_ready (rs := [6]) (by kernel_rfl) (by simp) ?_
          refine AllReadyH.cons (by simp; rfl) (fun Kc hKc => ?_) AllReadyH.nil
          have d0 := H7.out.1.c0
          have d1 := H7.out.1.c1
          have f0 := H7.out.1.f0 0
          have f1 := H7.out.1.f0 1
          go_simp
          clear d0 d1 f0 f1
          obtain ⟨wn, ewn⟩ : ∃ wn, (wd.setCell ⟨b7, 0, none⟩ (.slice tp tn tc)).setCell ⟨b7, 1, none⟩ (.slice (some ⟨g4, 0, none⟩) n c4) = wn := ⟨_, rfl⟩
          have hk : Kept (· = b7) wd wn := by rw [← ewn]; exact kept_two b7 _ _
          have hnew : GBx wn b7 (.slice tp tn tc) (.slice (some ⟨g4, 0, none⟩) n c4) := by rw [← ewn]; exact H7.out.1.put _ _
          rw [ewn]
          have h7 := H7.out.2
          have H7n : Hid (GBx wn b7 (.slice tp tn tc) (.slice (some ⟨g4, 0, none⟩) n c4) ∧ w.heap.size + 2 ≤ b7) := ⟨hnew, h7⟩
          have HBn : Hid (RowKit.Below w.heap.size w wn) := hk.into HB.out (fun b hb e => by omega) (Nat.le_refl _)
          have HGn : Hid (GBx wn w.heap.size (.slice tp tn tc) (.slice (some ⟨g, 0, none⟩) n cg)) := HG.out.far hk (by omega)
          have HLn : Hid (VBx wn (w.heap.size + 1) (.int .i64 9223372036854775807) 3) := HL.out.far hk (by omega)
          have HTn : Hid (Tnd nx bk ∧ NIn (fun k => ta ≤ k ∧ k < tb) wn (.slice (some ⟨g4, 0, none⟩) n c4) bk ∧ w.heap.size + 2 ≤ ta ∧ tb ≤ wn.heap.size) := ⟨HT.out.1, HT.out.2.1.far hk (fun k hk2 e => by subst e; exact absurd hk2 (by have := H7B.out; omega)), HT.out.2.2.1, Nat.le_trans HT.out.2.2.2 hk.size⟩
          have HOn : Hid (wn.ownsRow (w.heap.size + 2) 3 1 (.slice (some ⟨gf, 0, none⟩) n n) n (I64 (nz (List.replicate n NW))) ∧ tb ≤ gf) := ⟨O.own_far HO.out.1 hk fun b hb e => O.own_not HO.out.1 H7.out.1 (by decide) (by rw [← e]; exact hb), HO.out.2⟩
          have H8n : Hid (VBx wn b8 nils 72 ∧ w.heap.size + 2 ≤ b8) := ⟨H8.out.1.far hk (fun e => by have h1 : wd.heap[b8]? = _ := H8.out.1; have h2 : wd.heap[b7]? = _ := H7.out.1; rw [e, h2] at h1; simp at h1), H8.out.2⟩
          clear hk hnew ewn h7
          clear HB HG HL HT HO H7 H8
          have HB := HBn
          have HG := HGn
          have HL := HLn
          have HT := HTn
          have HO := HOn
          have H7 := H7n
          have H8 := H8n
          clear HBn HGn HLn HTn HOn H7n H8n
          refine hKc.out _ _ ⟨HG.out.c0, HG.out.c1⟩ (fun hHeld => ?_)
          clear hKc Kc
          generalize wn = wd at *
          try simp only [Act.put]

          refine wpAnyH_ready (rs := [7]) (by kernel_rfl) (by simp) ?_
          refine AllReadyH.cons (by simp; rfl) (fun Kc hKc => ?_) AllReadyH.nil
          have d0 := H8.out.1.c
          have f0 := H8.out.1.f
          go_simp
          clear d0 f0
          obtain ⟨wn, ewn⟩ : ∃ wn, wd.setCell ⟨b8, 0, none⟩ (.slice (some ⟨gf, 0, none⟩) n n) = wn := ⟨_, rfl⟩
          have hk : Kept (· = b8) wd wn := by rw [← ewn]; exact Kept.setCell b8 0 _
          have hnew : VBx wn b8 (.slice (some ⟨gf, 0, none⟩) n n) 72 := by rw [← ewn]; exact H8.out.1.put _
          rw [ewn]
          have h8 := H8.out.2
          have HGn : Hid (GBx wn w.heap.size (.slice tp tn tc) (.slice (some ⟨g, 0, none⟩) n cg)) := HG.out.far hk (by omega)
          have HR : Hid (Lra w wn n b7 b8 gf (.slice tp tn tc) (.slice (some ⟨g, 0, none⟩) n cg) (.slice (some ⟨g4, 0, none⟩) n c4) S (fun k => ta ≤ k ∧ k < tb) nx bk) := {
            bel := hk.into HB.out (fun b hb e => by omega) (Nat.le_refl _)
            gx := HGn.out
            le := HL.out.far hk (by omega)
            bx := H7.out.1.far hk (fun e => by have h1 : wd.heap[b8]? = _ := H8.out.1; have h2 : wd.heap[b7]? = _ := H7.out.1; rw [← e, h2] at h1; simp at h1)
            fx := hnew
            nin := HT.out.2.1.far hk (fun k hk2 e => by subst e; exact absurd hk2 (by have := H8B.out; omega))
            tnd := HT.out.1
            own := O.own_far HO.out.1 hk fun b hb e => O.own_not HO.out.1 H8.out.1 (by decide) (by rw [← e]; exact hb)
            l7 := H7.out.2
            l8 := h8
            lf := by have := (HO.out.1.lt gf rfl).1; omega
            tf := fun h => by have := HO.out.2; omega
            tl := fun k h => by have := HT.out.2.2.1; omega }
          clear HG HB HL HT HO H7 H8 hk hnew ewn h8
          refine hKc.out _ _ ⟨HGn.out.c0, HGn.out.c1⟩ (fun hHeld => ?_)
          clear hKc Kc HGn
          generalize wn = wd at *
          try simp only [Act.put]

          refine wpAnyH_done (by kernel_rfl) (NoPanic.normal ?_) _
          clear hHeld
          go_wp2_with fail
          go_meet
          case rel => exact ⟨b7, b8, gf, g4, c4, _, bk, rfl, rfl, HR⟩
        · go_simp
          obtain ⟨wn, ewn⟩ : ∃ wn, wd.alloc (Obj.cells #[nils, nils] 70) = wn := ⟨_, rfl⟩
          have bn : RowKit.Below wd.heap.size wd wn := by rw [← ewn]; exact below_alloc wd _
          have hnew : GBx wn wd.heap.size nils nils := by rw [← ewn]; exact GBx.new wd nils nils
          rw [ewn]
          obtain ⟨b7, eb⟩ : ∃ b, wd.heap.size = b := ⟨_, rfl⟩
          have H7 : Hid (GBx wn b7 nils nils ∧ w.heap.size + 2 ≤ b7) := ⟨by rw [← eb]; exact hnew, by have := HL.out.lt; omega⟩
          have H7B : Hid (¬ (ta ≤ b7 ∧ b7 < tb)) := fun h => by have := HT.out.2.2.2; omega
          have HBn : Hid (RowKit.Below w.heap.size w wn) := below_then2 HB.out bn
          have HGn : Hid (GBx wn w.heap.size (.slice tp tn tc) (.slice (some ⟨g, 0, none⟩) n cg)) := HG.out.later bn
          have HLn : Hid (VBx wn (w.heap.size + 1) (.int .i64 9223372036854775807) 3) := HL.out.later bn
          have HTn : Hid (Tnd nx bk ∧ NIn (fun k => ta ≤ k ∧ k < tb) wn (.slice (some ⟨g4, 0, none⟩) n c4) bk ∧ w.heap.size + 2 ≤ ta ∧ tb ≤ wn.heap.size) := ⟨HT.out.1, HT.out.2.1.later bn, HT.out.2.2.1, Nat.le_trans HT.out.2.2.2 bn.size⟩
          have H8n : Hid (VBx wn b8 nils 72 ∧ w.heap.size + 2 ≤ b8) := ⟨H8.out.1.later bn, H8.out.2⟩
          rw [eb]
          clear ewn hnew bn eb
          clear HB HG HL HT H8
          have HB := HBn
          have HG := HGn
          have HL := HLn
          have HT := HTn
          have H8 := H8n
          clear HBn HGn HLn HTn H8n
          refine hKc.out _ _ ⟨HG.out.c0, HG.out.c1⟩ (fun hHeld => ?_)
          clear hKc Kc
          generalize wn = wd at *
          try simp only [Act.put, List.setIfInBounds_toArray, List.set_cons_zero, List.set_cons_succ]

          refine wpAnyH_ready (rs := [3]) (by kernel_rfl) (by simp) ?_
          refine AllReadyH.cons (by simp; rfl) (fun Kc hKc => ?_) AllReadyH.nil
          go_simp
          refine (unreached_at hz).mono ?_
          rintro e wn ⟨gf, rfl, bn, hO⟩
          have HBn : Hid (RowKit.Below w.heap.size w wn) := below_then2 HB.out bn
          have HGn : Hid (GBx wn w.heap.size (.slice tp tn tc) (.slice (some ⟨g, 0, none⟩) n cg)) := HG.out.later bn
          have HLn : Hid (VBx wn (w.heap.size + 1) (.int .i64 9223372036854775807) 3) := HL.out.later bn
          have HTn : Hid (Tnd nx bk ∧ NIn (fun k => ta ≤ k ∧ k < tb) wn (.slice (some ⟨g4, 0, none⟩) n c4) bk ∧ w.heap.size + 2 ≤ ta ∧ tb ≤ wn.heap.size) := ⟨HT.out.1, HT.out.2.1.later bn, HT.out.2.2.1, Nat.le_trans HT.out.2.2.2 bn.size⟩
          have H7n : Hid (GBx wn b7 nils nils ∧ w.heap.size + 2 ≤ b7) := ⟨H7.out.1.later bn, H7.out.2⟩
          have H8n : Hid (VBx wn b8 nils 72 ∧ w.heap.size + 2 ≤ b8) := ⟨H8.out.1.later bn, H8.out.2⟩
          have HO : Hid (wn.ownsRow (w.heap.size + 2) 3 1 (.slice (some ⟨gf, 0, none⟩) n n) n (I64 (nz (List.replicate n NW))) ∧ tb ≤ gf) := ⟨B.own_mono hO (by have := HT.out.2.2; have := HL.out.lt; omega), by have := (hO.lt gf rfl).1; have := HT.out.2.2.2; omega⟩
          clear hO bn
          clear HB HG HL HT H7 H8
          have HB := HBn
          have HG := HGn
          have HL := HLn
          have HT := HTn
          have H7 := H7n
          have H8 := H8n
          clear HBn HGn HLn HTn H7n H8n
          refine hKc.out _ _ ⟨HG.out.c0, HG.out.c1⟩ (fun hHeld => ?_)
          clear hKc Kc
          generalize wn = wd at *
          try simp only [Act.put, List.setIfInBounds_toArray, List.set_cons_zero, List.set_cons_succ]

          refine wpAnyH_ready (rs := [6]) (by kernel_rfl) (by simp) ?_
          refine AllReadyH.cons (by simp; rfl) (fun Kc hKc => ?_) AllReadyH.nil
          have d0 := H7.out.1.c0
          have d1 := H7.out.1.c1
          have f0 := H7.out.1.f0 0
          have f1 := H7.out.1.f0 1
          go_simp
          clear d0 d1 f0 f1
          obtain ⟨wn, ewn⟩ : ∃ wn, (wd.setCell ⟨b7, 0, none⟩ (.slice tp tn tc)).setCell ⟨b7, 1, none⟩ (.slice (some ⟨g4, 0, none⟩) n c4) = wn := ⟨_, rfl⟩
          have hk : Kept (· = b7) wd wn := by rw [← ewn]; exact kept_two b7 _ _
          have hnew : GBx wn b7 (.slice tp tn tc) (.slice (some ⟨g4, 0, none⟩) n c4) := by rw [← ewn]; exact H7.out.1.put _ _
          rw [ewn]
          have h7 := H7.out.2
          have H7n : Hid (GBx wn b7 (.slice tp tn tc) (.slice (some ⟨g4, 0, none⟩) n c4) ∧ w.heap.size + 2 ≤ b7) := ⟨hnew, h7⟩
          have HBn : Hid (RowKit.Below w.heap.size w wn) := hk.into HB.out (fun b hb e => by omega) (Nat.le_refl _)
          have HGn : Hid (GBx wn w.heap.size (.slice tp tn tc) (.slice (some ⟨g, 0, none⟩) n cg)) := HG.out.far hk (by omega)
          have HLn : Hid (VBx wn (w.heap.size + 1) (.int .i64 9223372036854775807) 3) := HL.out.far hk (by omega)
          have HTn : Hid (Tnd nx bk ∧ NIn (fun k => ta ≤ k ∧ k < tb) wn (.slice (some ⟨g4, 0, none⟩) n c4) bk ∧ w.heap.size + 2 ≤ ta ∧ tb ≤ wn.heap.size) := ⟨HT.out.1, HT.out.2.1.far hk (fun k hk2 e => by subst e; exact absurd hk2 (by have := H7B.out; omega)), HT.out.2.2.1, Nat.le_trans HT.out.2.2.2 hk.size⟩
          have HOn : Hid (wn.ownsRow (w.heap.size + 2) 3 1 (.slice (some ⟨gf, 0, none⟩) n n) n (I64 (nz (List.replicate n NW))) ∧ tb ≤ gf) := ⟨O.own_far HO.out.1 hk fun b hb e => O.own_not HO.out.1 H7.out.1 (by decide) (by rw [← e]; exact hb), HO.out.2⟩
          have H8n : Hid (VBx wn b8 nils 72 ∧ w.heap.size + 2 ≤ b8) := ⟨H8.out.1.far hk (fun e => by have h1 : wd.heap[b8]? = _ := H8.out.1; have h2 : wd.heap[b7]? = _ := H7.out.1; rw [e, h2] at h1; simp at h1), H8.out.2⟩
          clear hk hnew ewn h7
          clear HB HG HL HT HO H7 H8
          have HB := HBn
          have HG := HGn
          have HL := HLn
          have HT := HTn
          have HO := HOn
          have H7 := H7n
          have H8 := H8n
          clear HBn HGn HLn HTn HOn H7n H8n
          refine hKc.out _ _ ⟨HG.out.c0, HG.out.c1⟩ (fun hHeld => ?_)
          clear hKc Kc
          generalize wn = wd at *
          try simp only [Act.put]

          refine wpAnyH_ready (rs := [7]) (by kernel_rfl) (by simp) ?_
          refine AllReadyH.cons (by simp; rfl) (fun Kc hKc => ?_) AllReadyH.nil
          have d0 := H8.out.1.c
          have f0 := H8.out.1.f
          go_simp
          clear d0 f0
          obtain ⟨wn, ewn⟩ : ∃ wn, wd.setCell ⟨b8, 0, none⟩ (.slice (some ⟨gf, 0, none⟩) n n) = wn := ⟨_, rfl⟩
          have hk : Kept (· = b8) wd wn := by rw [← ewn]; exact Kept.setCell b8 0 _
          have hnew : VBx wn b8 (.slice (some ⟨gf, 0, none⟩) n n) 72 := by rw [← ewn]; exact H8.out.1.put _
          rw [ewn]
          have h8 := H8.out.2
          have HGn : Hid (GBx wn w.heap.size (.slice tp tn tc) (.slice (some ⟨g, 0, none⟩) n cg)) := HG.out.far hk (by omega)
          have HR : Hid (Lra w wn n b7 b8 gf (.slice tp tn tc) (.slice (some ⟨g, 0, none⟩) n cg) (.slice (some ⟨g4, 0, none⟩) n c4) S (fun k => ta ≤ k ∧ k < tb) nx bk) := {
            bel := hk.into HB.out (fun b hb e => by omega) (Nat.le_refl _)
            gx := HGn.out
            le := HL.out.far hk (by omega)
            bx := H7.out.1.far hk (fun e => by have h1 : wd.heap[b8]? = _ := H8.out.1; have h2 : wd.heap[b7]? = _ := H7.out.1; rw [← e, h2] at h1; simp at h1)
            fx := hnew
            nin := HT.out.2.1.far hk (fun k hk2 e => by subst e; exact absurd hk2 (by have := H8B.out; omega))
            tnd := HT.out.1
            own := O.own_far HO.out.1 hk fun b hb e => O.own_not HO.out.1 H8.out.1 (by decide) (by rw [← e]; exact hb)
            l7 := H7.out.2
            l8 := h8
            lf := by have := (HO.out.1.lt gf rfl).1; omega
            tf := fun h => by have := HO.out.2; omega
            tl := fun k h => by have := HT.out.2.2.1; omega }
          clear HG HB HL HT HO H7 H8 hk hnew ewn h8
          refine hKc.out _ _ ⟨HGn.out.c0, HGn.out.c1⟩ (fun hHeld => ?_)
          clear hKc Kc HGn
          generalize wn = wd at *
          try simp only [Act.put]

          refine wpAnyH_done (by kernel_rfl) (NoPanic.normal ?_) _
          clear hHeld
          go_wp2_with fail
          go_meet
          case rel => exact ⟨b7, b8, gf, g4, c4, _, bk, rfl, rfl, HR⟩
    · go_simp
      obtain ⟨wn, ewn⟩ : ∃ wn, wd.alloc (Obj.cells #[nils, nils] 70) = wn := ⟨_, rfl⟩
      have bn : RowKit.Below wd.heap.size wd wn := by rw [← ewn]; exact below_alloc wd _
      have hnew : GBx wn wd.heap.size nils nils := by rw [← ewn]; exact GBx.new wd nils nils
      rw [ewn]
      obtain ⟨b7, eb⟩ : ∃ b, wd.heap.size = b := ⟨_, rfl⟩
      have H7 : Hid (GBx wn b7 nils nils ∧ w.heap.size + 2 ≤ b7) := ⟨by rw [← eb]; exact hnew, by have := HL.out.lt; omega⟩
      have HBn : Hid (RowKit.Below w.heap.size w wn) := below_then2 HB.out bn
      have HGn : Hid (GBx wn w.heap.size (.slice tp tn tc) (.slice (some ⟨g, 0, none⟩) n cg)) := HG.out.later bn
      have HLn : Hid (VBx wn (w.heap.size + 1) (.int .i64 9223372036854775807) 3) := HL.out.later bn
      rw [eb]
      clear ewn hnew bn eb
      clear HB HG HL
      have HB := HBn
      have HG := HGn
      have HL := HLn
      clear HBn HGn HLn
      refine hKc.out _ _ ⟨HG.out.c0, HG.out.c1⟩ (fun hHeld => ?_)
      clear hKc Kc
      generalize wn = wd at *
      try simp only [Act.put, List.setIfInBounds_toArray, List.set_cons_zero, List.set_cons_succ]

      refine wpAnyH_ready (rs := [1, 5]) (by kernel_rfl) (by simp) ?_
      refine AllReadyH.cons (by simp; rfl) (fun Kc hKc => ?_) (AllReadyH.cons (by simp; rfl) (fun Kc hKc => ?_) AllReadyH.nil)
      · go_simp
        refine (turned_at (S := S) hn hz (HNX.out _ HB.out) hwf hnd).mono ?_
        rintro e wn ⟨nvb, bk, rfl, hT, hN, bn⟩
        obtain ⟨g4, c4, e4, -⟩ := hN.row
        rw [hT.1, hn] at e4
        subst e4
        have HBn : Hid (RowKit.Below w.heap.size w wn) := below_then2 HB.out bn
        have HGn : Hid (GBx wn w.heap.size (.slice tp tn tc) (.slice (some ⟨g, 0, none⟩) n cg)) := HG.out.later bn
        have HLn : Hid (VBx wn (w.heap.size + 1) (.int .i64 9223372036854775807) 3) := HL.out.later bn
        have H7n : Hid (GBx wn b7 nils nils ∧ w.heap.size + 2 ≤ b7) := ⟨H7.out.1.later bn, H7.out.2⟩
        obtain ⟨ta, hta⟩ : ∃ ta, ta = wd.heap.size := ⟨_, rfl⟩
        obtain ⟨tb, htb⟩ : ∃ tb, tb = wn.heap.size := ⟨_, rfl⟩
        have HT : Hid (Tnd nx bk ∧ NIn (fun k => ta ≤ k ∧ k < tb) wn (.slice (some ⟨g4, 0, none⟩) n c4) bk ∧ w.heap.size + 2 ≤ ta ∧ tb ≤ wn.heap.size) := ⟨hT, by rw [hta, htb]; exact hN, by have := HL.out.lt; omega, by omega⟩
        have H7B : Hid (¬ (ta ≤ b7 ∧ b7 < tb)) := fun h => by have := H7.out.1.lt; omega
        clear hT hN bn hta htb
        clear HB HG HL H7
        have HB := HBn
        have HG := HGn
        have HL := HLn
        have H7 := H7n
        clear HBn HGn HLn H7n
        refine hKc.out _ _ ⟨HG.out.c0, HG.out.c1⟩ (fun hHeld => ?_)
        clear hKc Kc
        generalize wn = wd at *
        try simp only [Act.put, List.setIfInBounds_toArray, List.set_cons_zero, List.set_cons_succ]

        refine wpAnyH_ready (rs := [3, 5]) (by kernel_rfl) (by simp) ?_
        refine AllReadyH.cons (by simp; rfl) (fun Kc hKc => ?_) (AllReadyH.cons (by simp; rfl) (fun Kc hKc => ?_) AllReadyH.nil)
        · go_simp
          refine (unreached_at hz).mono ?_
          rintro e wn ⟨gf, rfl, bn, hO⟩
          have HBn : Hid (RowKit.Below w.heap.size w wn) := below_then2 HB.out bn
          have HGn : Hid (GBx wn w.heap.size (.slice tp tn tc) (.slice (some ⟨g, 0, none⟩) n cg)) := HG.out.later bn
          have HLn : Hid (VBx wn (w.heap.size + 1) (.int .i64 9223372036854775807) 3) := HL.out.later bn
          have HTn : Hid (Tnd nx bk ∧ NIn (fun k => ta ≤ k ∧ k < tb) wn (.slice (some ⟨g4, 0, none⟩) n c4) bk ∧ w.heap.size + 2 ≤ ta ∧ tb ≤ wn.heap.size) := ⟨HT.out.1, HT.out.2.1.later bn, HT.out.2.2.1, Nat.le_trans HT.out.2.2.2 bn.size⟩
          have H7n : Hid (GBx wn b7 nils nils ∧ w.heap.size + 2 ≤ b7) := ⟨H7.out.1.later bn, H7.out.2⟩
          have HO : Hid (wn.ownsRow (w.heap.size + 2) 3 1 (.slice (some ⟨gf, 0, none⟩) n n) n (I64 (nz (List.replicate n NW))) ∧ tb ≤ gf) := ⟨B.own_mono hO (by have := HT.out.2.2; have := HL.out.lt; omega), by have := (hO.lt gf rfl).1; have := HT.out.2.2.2; omega⟩
          clear hO bn
          clear HB HG HL HT H7
          have HB := HBn
          have HG := HGn
          have HL := HLn
          have HT := HTn
          have H7 := H7n
          clear HBn HGn HLn HTn H7n
          refine hKc.out _ _ ⟨HG.out.c0, HG.out.c1⟩ (fun hHeld => ?_)
          clear hKc Kc
          generalize wn = wd at *
          try simp only [Act.put, List.setIfInBounds_toArray, List.set_cons_zero, List.set_cons_succ]

          refine wpAnyH_ready (rs := [5]) (by kernel_rfl) (by simp) ?_
          refine AllReadyH.cons (by simp; rfl) (fun Kc hKc => ?_) AllReadyH.nil
          go_simp
          obtain ⟨wn, ewn⟩ : ∃ wn, wd.alloc (Obj.cells #[nils] 72) = wn := ⟨_, rfl⟩
          have bn : RowKit.Below wd.heap.size wd wn := by rw [← ewn]; exact below_alloc wd _
          have hnew : VBx wn wd.heap.size nils 72 := by rw [← ewn]; exact VBx.new wd nils 72
          rw [ewn]
          obtain ⟨b8, eb⟩ : ∃ b, wd.heap.size = b := ⟨_, rfl⟩
          have H8 : Hid (VBx wn b8 nils 72 ∧ w.heap.size + 2 ≤ b8) := ⟨by rw [← eb]; exact hnew, by have := HL.out.lt; omega⟩
          have H8B : Hid (¬ (ta ≤ b8 ∧ b8 < tb)) := fun h => by have := HT.out.2.2.2; omega
          have HBn : Hid (RowKit.Below w.heap.size w wn) := below_then2 HB.out bn
          have HGn : Hid (GBx wn w.heap.size (.slice tp tn tc) (.slice (some ⟨g, 0, none⟩) n cg)) := HG.out.later bn
          have HLn : Hid (VBx wn (w.heap.size + 1) (.int .i64 9223372036854775807) 3) := HL.out.later bn
          have HTn : Hid (Tnd nx bk ∧ NIn (fun k => ta ≤ k ∧ k < tb) wn (.slice (some ⟨g4, 0, none⟩) n c4) bk ∧ w.heap.size + 2 ≤ ta ∧ tb ≤ wn.heap.size) := ⟨HT.out.1, HT.out.2.1.later bn, HT.out.2.2.1, Nat.le_trans HT.out.2.2.2 bn.size⟩
          have HOn : Hid (wn.ownsRow (w.heap.size + 2) 3 1 (.slice (some ⟨gf, 0, none⟩) n n) n (I64 (nz (List.replicate n NW))) ∧ tb ≤ gf) := ⟨O.own_later HO.out.1 bn, HO.out.2⟩
          have H7n : Hid (GBx wn b7 nils nils ∧ w.heap.size + 2 ≤ b7) := ⟨H7.out.1.later bn, H7.out.2⟩
          rw [eb]
          clear ewn hnew bn eb
          clear HB HG HL HT HO H7
          have HB := HBn
          have HG := HGn
          have HL := HLn
          have HT := HTn
          have HO := HOn
          have H7 := H7n
          clear HBn HGn HLn HTn HOn H7n
          refine hKc.out _ _ ⟨HG.out.c0, HG.out.c1⟩ (fun hHeld => ?_)
          clear hKc Kc
          generalize wn = wd at *
          try simp only [Act.put, List.setIfInBounds_toArray, List.set_cons_zero, List.set_cons_succ]

          refine wpAnyH_ready (rs := [6]) (by kernel_rfl) (by simp) ?_
          refine AllReadyH.cons (by simp; rfl) (fun Kc hKc => ?_) AllReadyH.nil
          have d0 := H7.out.1.c0
          have d1 := H7.out.1.c1
          have f0 := H7.out.1.f0 0
          have f1 := H7.out.1.f0 1
          go_simp
          clear d0 d1 f0 f1
          obtain ⟨wn, ewn⟩ : ∃ wn, (wd.setCell ⟨b7, 0, none⟩ (.slice tp tn tc)).setCell ⟨b7, 1, none⟩ (.slice (some ⟨g4, 0, none⟩) n c4) = wn := ⟨_, rfl⟩
          have hk : Kept (· = b7) wd wn := by rw [← ewn]; exact kept_two b7 _ _
          have hnew : GBx wn b7 (.slice tp tn tc) (.slice (some ⟨g4, 0, none⟩) n c4) := by rw [← ewn]; exact H7.out.1.put _ _
          rw [ewn]
          have h7 := H7.out.2
          have H7n : Hid (GBx wn b7 (.slice tp tn tc) (.slice (some ⟨g4, 0, none⟩) n c4) ∧ w.heap.size + 2 ≤ b7) := ⟨hnew, h7⟩
          have HBn : Hid (RowKit.Below w.heap.size w wn) := hk.into HB.out (fun b hb e => by omega) (Nat.le_refl _)
          have HGn : Hid (GBx wn w.heap.size (.slice tp tn tc) (.slice (some ⟨g, 0, none⟩) n cg)) := HG.out.far hk (by omega)
          have HLn : Hid (VBx wn (w.heap.size + 1) (.int .i64 9223372036854775807) 3) := HL.out.far hk (by omega)
          have HTn : Hid (Tnd nx bk ∧ NIn (fun k => ta ≤ k ∧ k < tb) wn (.slice (some ⟨g4, 0, none⟩) n c4) bk ∧ w.heap.size + 2 ≤ ta ∧ tb ≤ wn.heap.size) := ⟨HT.out.1, HT.out.2.1.far hk (fun k hk2 e => by subst e; exact absurd hk2 (by have := H7B.out; omega)), HT.out.2.2.1, Nat.le_trans HT.out.2.2.2 hk.size⟩
          have HOn : Hid (wn.ownsRow (w.heap.size + 2) 3 1 (.slice (some ⟨gf, 0, none⟩) n n) n (I64 (nz (List.replicate n NW))) ∧ tb ≤ gf) := ⟨O.own_far HO.out.1 hk fun b hb e => O.own_not HO.out.1 H7.out.1 (by decide) (by rw [← e]; exact hb), HO.out.2⟩
          have H8n : Hid (VBx wn b8 nils 72 ∧ w.heap.size + 2 ≤ b8) := ⟨H8.out.1.far hk (fun e => by have h1 : wd.heap[b8]? = _ := H8.out.1; have h2 : wd.heap[b7]? = _ := H7.out.1; rw [e, h2] at h1; simp at h1), H8.out.2⟩
          clear hk hnew ewn h7
          clear HB HG HL HT HO H7 H8
          have HB := HBn
          have HG := HGn
          have HL := HLn
          have HT := HTn
          have HO := HOn
          have H7 := H7n
          have H8 := H8n
          clear HBn HGn HLn HTn HOn H7n H8n
          refine hKc.out _ _ ⟨HG.out.c0, HG.out.c1⟩ (fun hHeld => ?_)
          clear hKc Kc
          generalize wn = wd at *
          try simp only [Act.put]

          refine wpAnyH_ready (rs := [7]) (by kernel_rfl) (by simp) ?_
          refine AllReadyH.cons (by simp; rfl) (fun Kc hKc => ?_) AllReadyH.nil
          have d0 := H8.out.1.c
          have f0 := H8.out.1.f
          go_simp
          clear d0 f0
          obtain ⟨wn, ewn⟩ : ∃ wn, wd.setCell ⟨b8, 0, none⟩ (.slice (some ⟨gf, 0, none⟩) n n) = wn := ⟨_, rfl⟩
          have hk : Kept (· = b8) wd wn := by rw [← ewn]; exact Kept.setCell b8 0 _
          have hnew : VBx wn b8 (.slice (some ⟨gf, 0, none⟩) n n) 72 := by rw [← ewn]; exact H8.out.1.put _
          rw [ewn]
          have h8 := H8.out.2
          have HGn : Hid (GBx wn w.heap.size (.slice tp tn tc) (.slice (some ⟨g, 0, none⟩) n cg)) := HG.out.far hk (by omega)
          have HR : Hid (Lra w wn n b7 b8 gf (.slice tp tn tc) (.slice (some ⟨g, 0, none⟩) n cg) (.slice (some ⟨g4, 0, none⟩) n c4) S (fun k => ta ≤ k ∧ k < tb) nx bk) := {
            bel := hk.into HB.out (fun b hb e => by omega) (Nat.le_refl _)
            gx := HGn.out
            le := HL.out.far hk (by omega)
            bx := H7.out.1.far hk (fun e => by have h1 : wd.heap[b8]? = _ := H8.out.1; have h2 : wd.heap[b7]? = _ := H7.out.1; rw [← e, h2] at h1; simp at h1)
            fx := hnew
            nin := HT.out.2.1.far hk (fun k hk2 e => by subst e; exact absurd hk2 (by have := H8B.out; omega))
            tnd := HT.out.1
            own := O.own_far HO.out.1 hk fun b hb e => O.own_not HO.out.1 H8.out.1 (by decide) (by rw [← e]; exact hb)
            l7 := H7.out.2
            l8 := h8
            lf := by have := (HO.out.1.lt gf rfl).1; omega
            tf := fun h => by have := HO.out.2; omega
            tl := fun k h => by have := HT.out.2.2.1; omega }
          clear HG HB HL HT HO H7 H8 hk hnew ewn h8
          refine hKc.out _ _ ⟨HGn.out.c0, HGn.out.c1⟩ (fun hHeld => ?_)
          clear hKc Kc HGn
          generalize wn = wd at *
          try simp only [Act.put]

          refine wpAnyH_done (by kernel_rfl) (NoPanic.normal ?_) _
          clear hHeld
          go_wp2_with fail
          go_meet
          case rel => exact ⟨b7, b8, gf, g4, c4, _, bk, rfl, rfl, HR⟩
        · go_simp
          obtain ⟨wn, ewn⟩ : ∃ wn, wd.alloc (Obj.cells #[nils] 72) = wn := ⟨_, rfl⟩
          have bn : RowKit.Below wd.heap.size wd wn := by rw [← ewn]; exact below_alloc wd _
          have hnew : VBx wn wd.heap.size nils 72 := by rw [← ewn]; exact VBx.new wd nils 72
          rw [ewn]
          obtain ⟨b8, eb⟩ : ∃ b, wd.heap.size = b := ⟨_, rfl⟩
          have H8 : Hid (VBx wn b8 nils 72 ∧ w.heap.size + 2 ≤ b8) := ⟨by rw [← eb]; exact hnew, by have := HL.out.lt; omega⟩
          have H8B : Hid (¬ (ta ≤ b8 ∧ b8 < tb)) := fun h => by have := HT.out.2.2.2; omega
          have HBn : Hid (RowKit.Below w.heap.size w wn) := below_then2 HB.out bn
          have HGn : Hid (GBx wn w.heap.size (.slice tp tn tc) (.slice (some ⟨g, 0, none⟩) n cg)) := HG.out.later bn
          have HLn : Hid (VBx wn (w.heap.size + 1) (.int .i64 9223372036854775807) 3) := HL.out.later bn
          have HTn : Hid (Tnd nx bk ∧ NIn (fun k => ta ≤ k ∧ k < tb) wn (.slice (some ⟨g4, 0, none⟩) n c4) bk ∧ w.heap.size + 2 ≤ ta ∧ tb ≤ wn.heap.size) := ⟨HT.out.1, HT.out.2.1.later bn, HT.out.2.2.1, Nat.le_trans HT.out.2.2.2 bn.size⟩
          have H7n : Hid (GBx wn b7 nils nils ∧ w.heap.size + 2 ≤ b7) := ⟨H7.out.1.later bn, H7.out.2⟩
          rw [eb]
          clear ewn hnew bn eb
          clear HB HG HL HT H7
          have HB := HBn
          have HG := HGn
          have HL := HLn
          have HT := HTn
          have H7 := H7n
          clear HBn HGn HLn HTn H7n
          refine hKc.out _ _ ⟨HG.out.c0, HG.out.c1⟩ (fun hHeld => ?_)
          clear hKc Kc
          generalize wn = wd at *
          try simp only [Act.put, List.setIfInBounds_toArray, List.set_cons_zero, List.set_cons_succ]

          refine wpAnyH_ready (rs := [3]) (by kernel_rfl) (by simp) ?_
          refine AllReadyH.cons (by simp; rfl) (fun Kc hKc => ?_) AllReadyH.nil
          go_simp
          refine (unreached_at hz).mono ?_
          rintro e wn ⟨gf, rfl, bn, hO⟩
          have HBn : Hid (RowKit.Below w.heap.size w wn) := below_then2 HB.out bn
          have HGn : Hid (GBx wn w.heap.size (.slice tp tn tc) (.slice (some ⟨g, 0, none⟩) n cg)) := HG.out.later bn
          have HLn : Hid (VBx wn (w.heap.size + 1) (.int .i64 9223372036854775807) 3) := HL.out.later bn
          have HTn : Hid (Tnd nx bk ∧ NIn (fun k => ta ≤ k ∧ k < tb) wn (.slice (some ⟨g4, 0, none⟩) n c4) bk ∧ w.heap.size + 2 ≤ ta ∧ tb ≤ wn.heap.size) := ⟨HT.out.1, HT.out.2.1.later bn, HT.out.2.2.1, Nat.le_trans HT.out.2.2.2 bn.size⟩
          have H7n : Hid (GBx wn b7 nils nils ∧ w.heap.size + 2 ≤ b7) := ⟨H7.out.1.later bn, H7.out.2⟩
          have H8n : Hid (VBx wn b8 nils 72 ∧ w.heap.size + 2 ≤ b8) := ⟨H8.out.1.later bn, H8.out.2⟩
          have HO : Hid (wn.ownsRow (w.heap.size + 2) 3 1 (.slice (some ⟨gf, 0, none⟩) n n) n (I64 (nz (List.replicate n NW))) ∧ tb ≤ gf) := ⟨B.own_mono hO (by have := HT.out.2.2; have := HL.out.lt; omega), by have := (hO.lt gf rfl).1; have := HT.out.2.2.2; omega⟩
          clear hO bn
          clear HB HG HL HT H7 H8
          have HB := HBn
          have HG := HGn
          have HL := HLn
          have HT := HTn
          have H7 := H7n
          have H8 := H8n
          clear HBn HGn HLn HTn H7n H8n
          refine hKc.out _ _ ⟨HG.out.c0, HG.out.c1⟩ (fun hHeld => ?_)
          clear hKc Kc
          generalize wn = wd at *
          try simp only [Act.put, List.setIfInBounds_toArray, List.set_cons_zero, List.set_cons_succ]

          refine wpAnyH_ready (rs := [6]) (by kernel_rfl) (by simp) ?_
          refine AllReadyH.cons (by simp; rfl) (fun Kc hKc => ?_) AllReadyH.nil
          have d0 := H7.out.1.c0
          have d1 := H7.out.1.c1
          have f0 := H7.out.1.f0 0
          have f1 := H7.out.1.f0 1
          go_simp
          clear d0 d1 f0 f1
          obtain ⟨wn, ewn⟩ : ∃ wn, (wd.setCell ⟨b7, 0, none⟩ (.slice tp tn tc)).setCell ⟨b7, 1, none⟩ (.slice (some ⟨g4, 0, none⟩) n c4) = wn := ⟨_, rfl⟩
          have hk : Kept (· = b7) wd wn := by rw [← ewn]; exact kept_two b7 _ _
          have hnew : GBx wn b7 (.slice tp tn tc) (.slice (some ⟨g4, 0, none⟩) n c4) := by rw [← ewn]; exact H7.out.1.put _ _
          rw [ewn]
          have h7 := H7.out.2
          have H7n : Hid (GBx wn b7 (.slice tp tn tc) (.slice (some ⟨g4, 0, none⟩) n c4) ∧ w.heap.size + 2 ≤ b7) := ⟨hnew, h7⟩
          have HBn : Hid (RowKit.Below w.heap.size w wn) := hk.into HB.out (fun b hb e => by omega) (Nat.le_refl _)
          have HGn : Hid (GBx wn w.heap.size (.slice tp tn tc) (.slice (some ⟨g, 0, none⟩) n cg)) := HG.out.far hk (by omega)
          have HLn : Hid (VBx wn (w.heap.size + 1) (.int .i64 9223372036854775807) 3) := HL.out.far hk (by omega)
          have HTn : Hid (Tnd nx bk ∧ NIn (fun k => ta ≤ k ∧ k < tb) wn (.slice (some ⟨g4, 0, none⟩) n c4) bk ∧ w.heap.size + 2 ≤ ta ∧ tb ≤ wn.heap.size) := ⟨HT.out.1, HT.out.2.1.far hk (fun k hk2 e => by subst e; exact absurd hk2 (by have := H7B.out; omega)), HT.out.2.2.1, Nat.le_trans HT.out.2.2.2 hk.size⟩
          have HOn : Hid (wn.ownsRow (w.heap.size + 2) 3 1 (.slice (some ⟨gf, 0, none⟩) n n) n (I64 (nz (List.replicate n NW))) ∧ tb ≤ gf) := ⟨O.own_far HO.out.1 hk fun b hb e => O.own_not HO.out.1 H7.out.1 (by decide) (by rw [← e]; exact hb), HO.out.2⟩
          have H8n : Hid (VBx wn b8 nils 72 ∧ w.heap.size + 2 ≤ b8) := ⟨H8.out.1.far hk (fun e => by have h1 : wd.heap[b8]? = _ := H8.out.1; have h2 : wd.heap[b7]? = _ := H7.out.1; rw [e, h2] at h1; simp at h1), H8.out.2⟩
          clear hk hnew ewn h7
          clear HB HG HL HT HO H7 H8
          have HB := HBn
          have HG := HGn
          have HL := HLn
          have HT := HTn
          have HO := HOn
          have H7 := H7n
          have H8 := H8n
          clear HBn HGn HLn HTn HOn H7n H8n
          refine hKc.out _ _ ⟨HG.out.c0, HG.out.c1⟩ (fun hHeld => ?_)
          clear hKc Kc
          generalize wn = wd at *
          try simp only [Act.put]

          refine wpAnyH_ready (rs := [7]) (by kernel_rfl) (by simp) ?_
          refine AllReadyH.cons (by simp; rfl) (fun Kc hKc => ?_) AllReadyH.nil
          have d0 := H8.out.1.c
          have f0 := H8.out.1.f
          go_simp
          clear d0 f0
          obtain ⟨wn, ewn⟩ : ∃ wn, wd.setCell ⟨b8, 0, none⟩ (.slice (some ⟨gf, 0, none⟩) n n) = wn := ⟨_, rfl⟩
          have hk : Kept (· = b8) wd wn := by rw [← ewn]; exact Kept.setCell b8 0 _
          have hnew : VBx wn b8 (.slice (some ⟨gf, 0, none⟩) n n) 72 := by rw [← ewn]; exact H8.out.1.put _
          rw [ewn]
          have h8 := H8.out.2
          have HGn : Hid (GBx wn w.heap.size (.slice tp tn tc) (.slice (some ⟨g, 0, none⟩) n cg)) := HG.out.far hk (by omega)
          have HR : Hid (Lra w wn n b7 b8 gf (.slice tp tn tc) (.slice (some ⟨g, 0, none⟩) n cg) (.slice (some ⟨g4, 0, none⟩) n c4) S (fun k => ta ≤ k ∧ k < tb) nx bk) := {
            bel := hk.into HB.out (fun b hb e => by omega) (Nat.le_refl _)
            gx := HGn.out
            le := HL.out.far hk (by omega)
            bx := H7.out.1.far hk (fun e => by have h1 : wd.heap[b8]? = _ := H8.out.1; have h2 : wd.heap[b7]? = _ := H7.out.1; rw [← e, h2] at h1; simp at h1)
            fx := hnew
            nin := HT.out.2.1.far hk (fun k hk2 e => by subst e; exact absurd hk2 (by have := H8B.out; omega))
            tnd := HT.out.1
            own := O.own_far HO.out.1 hk fun b hb e => O.own_not HO.out.1 H8.out.1 (by decide) (by rw [← e]; exact hb)
            l7 := H7.out.2
            l8 := h8
            lf := by have := (HO.out.1.lt gf rfl).1; omega
            tf := fun h => by have := HO.out.2; omega
            tl := fun k h => by have := HT.out.2.2.1; omega }
          clear HG HB HL HT HO H7 H8 hk hnew ewn h8
          refine hKc.out _ _ ⟨HGn.out.c0, HGn.out.c1⟩ (fun hHeld => ?_)
          clear hKc Kc HGn
          generalize wn = wd at *
          try simp only [Act.put]

          refine wpAnyH_done (by kernel_rfl) (NoPanic.normal ?_) _
          clear hHeld
          go_wp2_with fail
          go_meet
          case rel => exact ⟨b7, b8, gf, g4, c4, _, bk, rfl, rfl, HR⟩
      · go_simp
        obtain ⟨wn, ewn⟩ : ∃ wn, wd.alloc (Obj.cells #[nils] 72) = wn := ⟨_, rfl⟩
        have bn : RowKit.Below wd.heap.size wd wn := by rw [← ewn]; exact below_alloc wd _
        have hnew : VBx wn wd.heap.size nils 72 := by rw [← ewn]; exact VBx.new wd nils 72
        rw [ewn]
        obtain ⟨b8, eb⟩ : ∃ b, wd.heap.size = b := ⟨_, rfl⟩
        have H8 : Hid (VBx wn b8 nils 72 ∧ w.heap.size + 2 ≤ b8) := ⟨by rw [← eb]; exact hnew, by have := HL.out.lt; omega⟩
        have HBn : Hid (RowKit.Below w.heap.size w wn) := below_then2 HB.out bn
        have HGn : Hid (GBx wn w.heap.size (.slice tp tn tc) (.slice (some ⟨g, 0, none⟩) n cg)) := HG.out.later bn
        have HLn : Hid (VBx wn (w.heap.size + 1) (.int .i64 9223372036854775807) 3) := HL.out.later bn
        have H7n : Hid (GBx wn b7 nils nils ∧ w.heap.size + 2 ≤ b7) := ⟨H7.out.1.later bn, H7.out.2⟩
        rw [eb]
        clear ewn hnew bn eb
        clear HB HG HL H7
        have HB := HBn
        have HG := HGn
        have HL := HLn
        have H7 := H7n
        clear HBn HGn HLn H7n
        refine hKc.out _ _ ⟨HG.out.c0, HG.out.c1⟩ (fun hHeld => ?_)
        clear hKc Kc
        generalize wn = wd at *
        try simp only [Act.put, List.setIfInBounds_toArray, List.set_cons_zero, List.set_cons_succ]

        refine wpAnyH_ready (rs := [1]) (by kernel_rfl) (by simp) ?_
        refine AllReadyH.cons (by simp; rfl) (fun Kc hKc => ?_) AllReadyH.nil
        go_simp
        refine (turned_at (S := S) hn hz (HNX.out _ HB.out) hwf hnd).mono ?_
        rintro e wn ⟨nvb, bk, rfl, hT, hN, bn⟩
        obtain ⟨g4, c4, e4, -⟩ := hN.row
        rw [hT.1, hn] at e4
        subst e4
        have HBn : Hid (RowKit.Below w.heap.size w wn) := below_then2 HB.out bn
        have HGn : Hid (GBx wn w.heap.size (.slice tp tn tc) (.slice (some ⟨g, 0, none⟩) n cg)) := HG.out.later bn
        have HLn : Hid (VBx wn (w.heap.size + 1) (.int .i64 9223372036854775807) 3) := HL.out.later bn
        have H7n : Hid (GBx wn b7 nils nils ∧ w.heap.size + 2 ≤ b7) := ⟨H7.out.1.later bn, H7.out.2⟩
        have H8n : Hid (VBx wn b8 nils 72 ∧ w.heap.size + 2 ≤ b8) := ⟨H8.out.1.later bn, H8.out.2⟩
        obtain ⟨ta, hta⟩ : ∃ ta, ta = wd.heap.size := ⟨_, rfl⟩
        obtain ⟨tb, htb⟩ : ∃ tb, tb = wn.heap.size := ⟨_, rfl⟩
        have HT : Hid (Tnd nx bk ∧ NIn (fun k => ta ≤ k ∧ k < tb) wn (.slice (some ⟨g4, 0, none⟩) n c4) bk ∧ w.heap.size + 2 ≤ ta ∧ tb ≤ wn.heap.size) := ⟨hT, by rw [hta, htb]; exact hN, by have := HL.out.lt; omega, by omega⟩
        have H7B : Hid (¬ (ta ≤ b7 ∧ b7 < tb)) := fun h => by have := H7.out.1.lt; omega
        have H8B : Hid (¬ (ta ≤ b8 ∧ b8 < tb)) := fun h => by have := H8.out.1.lt; omega
        clear hT hN bn hta htb
        clear HB HG HL H7 H8
        have HB := HBn
        have HG := HGn
        have HL := HLn
        have H7 := H7n
        have H8 := H8n
        clear HBn HGn HLn H7n H8n
        refine hKc.out _ _ ⟨HG.out.c0, HG.out.c1⟩ (fun hHeld => ?_)
        clear hKc Kc
        generalize wn = wd at *
        try simp only [Act.put, List.setIfInBounds_toArray, List.set_cons_zero, List.set_cons_succ]

        refine wpAnyH_ready (rs := [3]) (by kernel_rfl) (by simp) ?_
        refine AllReadyH.cons (by simp; rfl) (fun Kc hKc => ?_) AllReadyH.nil
        go_simp
        refine (unreached_at hz).mono ?_
        rintro e wn ⟨gf, rfl, bn, hO⟩
        have HBn : Hid (RowKit.Below w.heap.size w wn) := below_then2 HB.out bn
        have HGn : Hid (GBx wn w.heap.size (.slice tp tn tc) (.slice (some ⟨g, 0, none⟩) n cg)) := HG.out.later bn
        have HLn : Hid (VBx wn (w.heap.size + 1) (.int .i64 9223372036854775807) 3) := HL.out.later bn
        have HTn : Hid (Tnd nx bk ∧ NIn (fun k => ta ≤ k ∧ k < tb) wn (.slice (some ⟨g4, 0, none⟩) n c4) bk ∧ w.heap.size + 2 ≤ ta ∧ tb ≤ wn.heap.size) := ⟨HT.out.1, HT.out.2.1.later bn, HT.out.2.2.1, Nat.le_trans HT.out.2.2.2 bn.size⟩
        have H7n : Hid (GBx wn b7 nils nils ∧ w.heap.size + 2 ≤ b7) := ⟨H7.out.1.later bn, H7.out.2⟩
        have H8n : Hid (VBx wn b8 nils 72 ∧ w.heap.size + 2 ≤ b8) := ⟨H8.out.1.later bn, H8.out.2⟩
        have HO : Hid (wn.ownsRow (w.heap.size + 2) 3 1 (.slice (some ⟨gf, 0, none⟩) n n) n (I64 (nz (List.replicate n NW))) ∧ tb ≤ gf) := ⟨B.own_mono hO (by have := HT.out.2.2; have := HL.out.lt; omega), by have := (hO.lt gf rfl).1; have := HT.out.2.2.2; omega⟩
        clear hO bn
        clear HB HG HL HT H7 H8
        have HB := HBn
        have HG := HGn
        have HL := HLn
        have HT := HTn
        have H7 := H7n
        have H8 := H8n
        clear HBn HGn HLn HTn H7n H8n
        refine hKc.out _ _ ⟨HG.out.c0, HG.out.c1⟩ (fun hHeld => ?_)
        clear hKc Kc
        generalize wn = wd at *
        try simp only [Act.put, List.setIfInBounds_toArray, List.set_cons_zero, List.set_cons_succ]

        refine wpAnyH_ready (rs := [6]) (by kernel_rfl) (by simp) ?_
        refine AllReadyH.cons (by simp; rfl) (fun Kc hKc => ?_) AllReadyH.nil
        have d0 := H7.out.1.c0
        have d1 := H7.out.1.c1
        have f0 := H7.out.1.f0 0
        have f1 := H7.out.1.f0 1
        go_simp
        clear d0 d1 f0 f1
        obtain ⟨wn, ewn⟩ : ∃ wn, (wd.setCell ⟨b7, 0, none⟩ (.slice tp tn tc)).setCell ⟨b7, 1, none⟩ (.slice (some ⟨g4, 0, none⟩) n c4) = wn := ⟨_, rfl⟩
        have hk : Kept (· = b7) wd wn := by rw [← ewn]; exact kept_two b7 _ _
        have hnew : GBx wn b7 (.slice tp tn tc) (.slice (some ⟨g4, 0, none⟩) n c4) := by rw [← ewn]; exact H7.out.1.put _ _
        rw [ewn]
        have h7 := H7.out.2
        have H7n : Hid (GBx wn b7 (.slice tp tn tc) (.slice (some ⟨g4, 0, none⟩) n c4) ∧ w.heap.size + 2 ≤ b7) := ⟨hnew, h7⟩
        have HBn : Hid (RowKit.Below w.heap.size w wn) := hk.into HB.out (fun b hb e => by omega) (Nat.le_refl _)
        have HGn : Hid (GBx wn w.heap.size (.slice tp tn tc) (.slice (some ⟨g, 0, none⟩) n cg)) := HG.out.far hk (by omega)
        have HLn : Hid (VBx wn (w.heap.size + 1) (.int .i64 9223372036854775807) 3) := HL.out.far hk (by omega)
        have HTn : Hid (Tnd nx bk ∧ NIn (fun k => ta ≤ k ∧ k < tb) wn (.slice (some ⟨g4, 0, none⟩) n c4) bk ∧ w.heap.size + 2 ≤ ta ∧ tb ≤ wn.heap.size) := ⟨HT.out.1, HT.out.2.1.far hk (fun k hk2 e => by subst e; exact absurd hk2 (by have := H7B.out; omega)), HT.out.2.2.1, Nat.le_trans HT.out.2.2.2 hk.size⟩
        have HOn : Hid (wn.ownsRow (w.heap.size + 2) 3 1 (.slice (some ⟨gf, 0, none⟩) n n) n (I64 (nz (List.replicate n NW))) ∧ tb ≤ gf) := ⟨O.own_far HO.out.1 hk fun b hb e => O.own_not HO.out.1 H7.out.1 (by decide) (by rw [← e]; exact hb), HO.out.2⟩
        have H8n : Hid (VBx wn b8 nils 72 ∧ w.heap.size + 2 ≤ b8) := ⟨H8.out.1.far hk (fun e => by have h1 : wd.heap[b8]? = _ := H8.out.1; have h2 : wd.heap[b7]? = _ := H7.out.1; rw [e, h2] at h1; simp at h1), H8.out.2⟩
        clear hk hnew ewn h7
        clear HB HG HL HT HO H7 H8
        have HB := HBn
        have HG := HGn
        have HL := HLn
        have HT := HTn
        have HO := HOn
        have H7 := H7n
        have H8 := H8n
        clear HBn HGn HLn HTn HOn H7n H8n
        refine hKc.out _ _ ⟨HG.out.c0, HG.out.c1⟩ (fun hHeld => ?_)
        clear hKc Kc
        generalize wn = wd at *
        try simp only [Act.put]

        refine wpAnyH_ready (rs := [7]) (by kernel_rfl) (by simp) ?_
        refine AllReadyH.cons (by simp; rfl) (fun Kc hKc => ?_) AllReadyH.nil
        have d0 := H8.out.1.c
        have f0 := H8.out.1.f
        go_simp
        clear d0 f0
        obtain ⟨wn, ewn⟩ : ∃ wn, wd.setCell ⟨b8, 0, none⟩ (.slice (some ⟨gf, 0, none⟩) n n) = wn := ⟨_, rfl⟩
        have hk : Kept (· = b8) wd wn := by rw [← ewn]; exact Kept.setCell b8 0 _
        have hnew : VBx wn b8 (.slice (some ⟨gf, 0, none⟩) n n) 72 := by rw [← ewn]; exact H8.out.1.put _
        rw [ewn]
        have h8 := H8.out.2
        have HGn : Hid (GBx wn w.heap.size (.slice tp tn tc) (.slice (some ⟨g, 0, none⟩) n cg)) := HG.out.far hk (by omega)
        have HR : Hid (Lra w wn n b7 b8 gf (.slice tp tn tc) (.slice (some ⟨g, 0, none⟩) n cg) (.slice (some ⟨g4, 0, none⟩) n c4) S (fun k => ta ≤ k ∧ k < tb) nx bk) := {
          bel := hk.into HB.out (fun b hb e => by omega) (Nat.le_refl _)
          gx := HGn.out
          le := HL.out.far hk (by omega)
          bx := H7.out.1.far hk (fun e => by have h1 : wd.heap[b8]? = _ := H8.out.1; have h2 : wd.heap[b7]? = _ := H7.out.1; rw [← e, h2] at h1; simp at h1)
          fx := hnew
          nin := HT.out.2.1.far hk (fun k hk2 e => by subst e; exact absurd hk2 (by have := H8B.out; omega))
          tnd := HT.out.1
          own := O.own_far HO.out.1 hk fun b hb e => O.own_not HO.out.1 H8.out.1 (by decide) (by rw [← e]; exact hb)
          l7 := H7.out.2
          l8 := h8
          lf := by have := (HO.out.1.lt gf rfl).1; omega
          tf := fun h => by have := HO.out.2; omega
          tl := fun k h => by have := HT.out.2.2.1; omega }
        clear HG HB HL HT HO H7 H8 hk hnew ewn h8
        refine hKc.out _ _ ⟨HGn.out.c0, HGn.out.c1⟩ (fun hHeld => ?_)
        clear hKc Kc HGn
        generalize wn = wd at *
        try simp only [Act.put]

        refine wpAnyH_done (by kernel_rfl) (NoPanic.normal ?_) _
        clear hHeld
        go_wp2_with fail
        go_meet
        case rel => exact ⟨b7, b8, gf, g4, c4, _, bk, rfl, rfl, HR⟩
    · go_simp
      obtain ⟨wn, ewn⟩ : ∃ wn, wd.alloc (Obj.cells #[nils] 72) = wn := ⟨_, rfl⟩
      have bn : RowKit.Below wd.heap.size wd wn := by rw [← ewn]; exact below_alloc wd _
      have hnew : VBx wn wd.heap.size nils 72 := by rw [← ewn]; exact VBx.new wd nils 72
      rw [ewn]
      obtain ⟨b8, eb⟩ : ∃ b, wd.heap.size = b := ⟨_, rfl⟩
      have H8 : Hid (VBx wn b8 nils 72 ∧ w.heap.size + 2 ≤ b8) := ⟨by rw [← eb]; exact hnew, by have := HL.out.lt; omega⟩
      have HBn : Hid (RowKit.Below w.heap.size w wn) := below_then2 HB.out bn
      have HGn : Hid (GBx wn w.heap.size (.slice tp tn tc) (.slice (some ⟨g, 0, none⟩) n cg)) := HG.out.later bn
      have HLn : Hid (VBx wn (w.heap.size + 1) (.int .i64 9223372036854775807) 3) := HL.out.later bn
      rw [eb]
      clear ewn hnew bn eb
      clear HB HG HL
      have HB := HBn
      have HG := HGn
      have HL := HLn
      clear HBn HGn HLn
      refine hKc.out _ _ ⟨HG.out.c0, HG.out.c1⟩ (fun hHeld => ?_)
      clear hKc Kc
      generalize wn = wd at *
      try simp only [Act.put, List.setIfInBounds_toArray, List.set_cons_zero, List.set_cons_succ]

      refine wpAnyH_ready (rs := [1, 4]) (by kernel_rfl) (by simp) ?_
      refine AllReadyH.cons (by simp; rfl) (fun Kc hKc => ?_) (AllReadyH.cons (by simp; rfl) (fun Kc hKc => ?_) AllReadyH.nil)
      · go_simp
        refine (turned_at (S := S) hn hz (HNX.out _ HB.out) hwf hnd).mono ?_
        rintro e wn ⟨nvb, bk, rfl, hT, hN, bn⟩
        obtain ⟨g4, c4, e4, -⟩ := hN.row
        rw [hT.1, hn] at e4
        subst e4
        have HBn : Hid (RowKit.Below w.heap.size w wn) := below_then2 HB.out bn
        have HGn : Hid (GBx wn w.heap.size (.slice tp tn tc) (.slice (some ⟨g, 0, none⟩) n cg)) := HG.out.later bn
        have HLn : Hid (VBx wn (w.heap.size + 1) (.int .i64 9223372036854775807) 3) := HL.out.later bn
        have H8n : Hid (VBx wn b8 nils 72 ∧ w.heap.size + 2 ≤ b8) := ⟨H8.out.1.later bn, H8.out.2⟩
        obtain ⟨ta, hta⟩ : ∃ ta, ta = wd.heap.size := ⟨_, rfl⟩
        obtain ⟨tb, htb⟩ : ∃ tb, tb = wn.heap.size := ⟨_, rfl⟩
        have HT : Hid (Tnd nx bk ∧ NIn (fun k => ta ≤ k ∧ k < tb) wn (.slice (some ⟨g4, 0, none⟩) n c4) bk ∧ w.heap.size + 2 ≤ ta ∧ tb ≤ wn.heap.size) := ⟨hT, by rw [hta, htb]; exact hN, by have := HL.out.lt; omega, by omega⟩
        have H8B : Hid (¬ (ta ≤ b8 ∧ b8 < tb)) := fun h => by have := H8.out.1.lt; omega
        clear hT hN bn hta htb
        clear HB HG HL H8
        have HB := HBn
        have HG := HGn
        have HL := HLn
        have H8 := H8n
        clear HBn HGn HLn H8n
        refine hKc.out _ _ ⟨HG.out.c0, HG.out.c1⟩ (fun hHeld => ?_)
        clear hKc Kc
        generalize wn = wd at *
        try simp only [Act.put, List.setIfInBounds_toArray, List.set_cons_zero, List.set_cons_succ]

        refine wpAnyH_ready (rs := [3, 4]) (by kernel_rfl) (by simp) ?_
        refine AllReadyH.cons (by simp; rfl) (fun Kc hKc => ?_) (AllReadyH.cons (by simp; rfl) (fun Kc hKc => ?_) AllReadyH.nil)
        · go_simp
          refine (unreached_at hz).mono ?_
          rintro e wn ⟨gf, rfl, bn, hO⟩
          have HBn : Hid (RowKit.Below w.heap.size w wn) := below_then2 HB.out bn
          have HGn : Hid (GBx wn w.heap.size (.slice tp tn tc) (.slice (some ⟨g, 0, none⟩) n cg)) := HG.out.later bn
          have HLn : Hid (VBx wn (w.heap.size + 1) (.int .i64 9223372036854775807) 3) := HL.out.later bn
          have HTn : Hid (Tnd nx bk ∧ NIn (fun k => ta ≤ k ∧ k < tb) wn (.slice (some ⟨g4, 0, none⟩) n c4) bk ∧ w.heap.size + 2 ≤ ta ∧ tb ≤ wn.heap.size) := ⟨HT.out.1, HT.out.2.1.later bn, HT.out.2.2.1, Nat.le_trans HT.out.2.2.2 bn.size⟩
          have H8n : Hid (VBx wn b8 nils 72 ∧ w.heap.size + 2 ≤ b8) := ⟨H8.out.1.later bn, H8.out.2⟩
          have HO : Hid (wn.ownsRow (w.heap.size + 2) 3 1 (.slice (some ⟨gf, 0, none⟩) n n) n (I64 (nz (List.replicate n NW))) ∧ tb ≤ gf) := ⟨B.own_mono hO (by have := HT.out.2.2; have := HL.out.lt; omega), by have := (hO.lt gf rfl).1; have := HT.out.2.2.2; omega⟩
          clear hO bn
          clear HB HG HL HT H8
          have HB := HBn
          have HG := HGn
          have HL := HLn
          have HT := HTn
          have H8 := H8n
          clear HBn HGn HLn HTn H8n
          refine hKc.out _ _ ⟨HG.out.c0, HG.out.c1⟩ (fun hHeld => ?_)
          clear hKc Kc
          generalize wn = wd at *
          try simp only [Act.put, List.setIfInBounds_toArray, List.set_cons_zero, List.set_cons_succ]

          refine wpAnyH_ready (rs := [4]) (by kernel_rfl) (by simp) ?_
          refine AllReadyH.cons (by simp; rfl) (fun Kc hKc => ?_) AllReadyH.nil
          go_simp
          obtain ⟨wn, ewn⟩ : ∃ wn, wd.alloc (Obj.cells #[nils, nils] 70) = wn := ⟨_, rfl⟩
          have bn : RowKit.Below wd.heap.size wd wn := by rw [← ewn]; exact below_alloc wd _
          have hnew : GBx wn wd.heap.size nils nils := by rw [← ewn]; exact GBx.new wd nils nils
          rw [ewn]
          obtain ⟨b7, eb⟩ : ∃ b, wd.heap.size = b := ⟨_, rfl⟩
          have H7 : Hid (GBx wn b7 nils nils ∧ w.heap.size + 2 ≤ b7) := ⟨by rw [← eb]; exact hnew, by have := HL.out.lt; omega⟩
          have H7B : Hid (¬ (ta ≤ b7 ∧ b7 < tb)) := fun h => by have := HT.out.2.2.2; omega
          have HBn : Hid (RowKit.Below w.heap.size w wn) := below_then2 HB.out bn
          have HGn : Hid (GBx wn w.heap.size (.slice tp tn tc) (.slice (some ⟨g, 0, none⟩) n cg)) := HG.out.later bn
          have HLn : Hid (VBx wn (w.heap.size + 1) (.int .i64 9223372036854775807) 3) := HL.out.later bn
          have HTn : Hid (Tnd nx bk ∧ NIn (fun k => ta ≤ k ∧ k < tb) wn (.slice (some ⟨g4, 0, none⟩) n c4) bk ∧ w.heap.size + 2 ≤ ta ∧ tb ≤ wn.heap.size) := ⟨HT.out.1, HT.out.2.1.later bn, HT.out.2.2.1, Nat.le_trans HT.out.2.2.2 bn.size⟩
          have HOn : Hid (wn.ownsRow (w.heap.size + 2) 3 1 (.slice (some ⟨gf, 0, none⟩) n n) n (I64 (nz (List.replicate n NW))) ∧ tb ≤ gf) := ⟨O.own_later HO.out.1 bn, HO.out.2⟩
          have H8n : Hid (VBx wn b8 nils 72 ∧ w.heap.size + 2 ≤ b8) := ⟨H8.out.1.later bn, H8.out.2⟩
          rw [eb]
          clear ewn hnew bn eb
          clear HB HG HL HT HO H8
          have HB := HBn
          have HG := HGn
          have HL := HLn
          have HT := HTn
          have HO := HOn
          have H8 := H8n
          clear HBn HGn HLn HTn HOn H8n
          refine hKc.out _ _ ⟨HG.out.c0, HG.out.c1⟩ (fun hHeld => ?_)
          clear hKc Kc
          generalize wn = wd at *
          try simp only [Act.put, List.setIfInBounds_toArray, List.set_cons_zero, List.set_cons_succ]

          refine wpAnyH_ready (rs := [6]) (by kernel_rfl) (by simp) ?_
          refine AllReadyH.cons (by simp; rfl) (fun Kc hKc => ?_) AllReadyH.nil
          have d0 := H7.out.1.c0
          have d1 := H7.out.1.c1
          have f0 := H7.out.1.f0 0
          have f1 := H7.out.1.f0 1
          go_simp
          clear d0 d1 f0 f1
          obtain ⟨wn, ewn⟩ : ∃ wn, (wd.setCell ⟨b7, 0, none⟩ (.slice tp tn tc)).setCell ⟨b7, 1, none⟩ (.slice (some ⟨g4, 0, none⟩) n c4) = wn := ⟨_, rfl⟩
          have hk : Kept (· = b7) wd wn := by rw [← ewn]; exact kept_two b7 _ _
          have hnew : GBx wn b7 (.slice tp tn tc) (.slice (some ⟨g4, 0, none⟩) n c4) := by rw [← ewn]; exact H7.out.1.put _ _
          rw [ewn]
          have h7 := H7.out.2
          have H7n : Hid (GBx wn b7 (.slice tp tn tc) (.slice (some ⟨g4, 0, none⟩) n c4) ∧ w.heap.size + 2 ≤ b7) := ⟨hnew, h7⟩
          have HBn : Hid (RowKit.Below w.heap.size w wn) := hk.into HB.out (fun b hb e => by omega) (Nat.le_refl _)
          have HGn : Hid (GBx wn w.heap.size (.slice tp tn tc) (.slice (some ⟨g, 0, none⟩) n cg)) := HG.out.far hk (by omega)
          have HLn : Hid (VBx wn (w.heap.size + 1) (.int .i64 9223372036854775807) 3) := HL.out.far hk (by omega)
          have HTn : Hid (Tnd nx bk ∧ NIn (fun k => ta ≤ k ∧ k < tb) wn (.slice (some ⟨g4, 0, none⟩) n c4) bk ∧ w.heap.size + 2 ≤ ta ∧ tb ≤ wn.heap.size) := ⟨HT.out.1, HT.out.2.1.far hk (fun k hk2 e => by subst e; exact absurd hk2 (by have := H7B.out; omega)), HT.out.2.2.1, Nat.le_trans HT.out.2.2.2 hk.size⟩
          have HOn : Hid (wn.ownsRow (w.heap.size + 2) 3 1 (.slice (some ⟨gf, 0, none⟩) n n) n (I64 (nz (List.replicate n NW))) ∧ tb ≤ gf) := ⟨O.own_far HO.out.1 hk fun b hb e => O.own_not HO.out.1 H7.out.1 (by decide) (by rw [← e]; exact hb), HO.out.2⟩
          have H8n : Hid (VBx wn b8 nils 72 ∧ w.heap.size + 2 ≤ b8) := ⟨H8.out.1.far hk (fun e => by have h1 : wd.heap[b8]? = _ := H8.out.1; have h2 : wd.heap[b7]? = _ := H7.out.1; rw [e, h2] at h1; simp at h1), H8.out.2⟩
          clear hk hnew ewn h7
          clear HB HG HL HT HO H7 H8
          have HB := HBn
          have HG := HGn
          have HL := HLn
          have HT := HTn
          have HO := HOn
          have H7 := H7n
          have H8 := H8n
          clear HBn HGn HLn HTn HOn H7n H8n
          refine hKc.out _ _ ⟨HG.out.c0, HG.out.c1⟩ (fun hHeld => ?_)
          clear hKc Kc
          generalize wn = wd at *
          try simp only [Act.put]

          refine wpAnyH_ready (rs := [7]) (by kernel_rfl) (by simp) ?_
          refine AllReadyH.cons (by simp; rfl) (fun Kc hKc => ?_) AllReadyH.nil
          have d0 := H8.out.1.c
          have f0 := H8.out.1.f
          go_simp
          clear d0 f0
          obtain ⟨wn, ewn⟩ : ∃ wn, wd.setCell ⟨b8, 0, none⟩ (.slice (some ⟨gf, 0, none⟩) n n) = wn := ⟨_, rfl⟩
          have hk : Kept (· = b8) wd wn := by rw [← ewn]; exact Kept.setCell b8 0 _
          have hnew : VBx wn b8 (.slice (some ⟨gf, 0, none⟩) n n) 72 := by rw [← ewn]; exact H8.out.1.put _
          rw [ewn]
          have h8 := H8.out.2
          have HGn : Hid (GBx wn w.heap.size (.slice tp tn tc) (.slice (some ⟨g, 0, none⟩) n cg)) := HG.out.far hk (by omega)
          have HR : Hid (Lra w wn n b7 b8 gf (.slice tp tn tc) (.slice (some ⟨g, 0, none⟩) n cg) (.slice (some ⟨g4, 0, none⟩) n c4) S (fun k => ta ≤ k ∧ k < tb) nx bk) := {
            bel := hk.into HB.out (fun b hb e => by omega) (Nat.le_refl _)
            gx := HGn.out
            le := HL.out.far hk (by omega)
            bx := H7.out.1.far hk (fun e => by have h1 : wd.heap[b8]? = _ := H8.out.1; have h2 : wd.heap[b7]? = _ := H7.out.1; rw [← e, h2] at h1; simp at h1)
            fx := hnew
            nin := HT.out.2.1.far hk (fun k hk2 e => by subst e; exact absurd hk2 (by have := H8B.out; omega))
            tnd := HT.out.1
            own := O.own_far HO.out.1 hk fun b hb e => O.own_not HO.out.1 H8.out.1 (by decide) (by rw [← e]; exact hb)
            l7 := H7.out.2
            l8 := h8
            lf := by have := (HO.out.1.lt gf rfl).1; omega
            tf := fun h => by have := HO.out.2; omega
            tl := fun k h => by have := HT.out.2.2.1; omega }
          clear HG HB HL HT HO H7 H8 hk hnew ewn h8
          refine hKc.out _ _ ⟨HGn.out.c0, HGn.out.c1⟩ (fun hHeld => ?_)
          clear hKc Kc HGn
          generalize wn = wd at *
          try simp only [Act.put]

          refine wpAnyH_done (by kernel_rfl) (NoPanic.normal ?_) _
          clear hHeld
          go_wp2_with fail
          go_meet
          case rel => exact ⟨b7, b8, gf, g4, c4, _, bk, rfl, rfl, HR⟩
        · go_simp
          obtain ⟨wn, ewn⟩ : ∃ wn, wd.alloc (Obj.cells #[nils, nils] 70) = wn := ⟨_, rfl⟩
          have bn : RowKit.Below wd.heap.size wd wn := by rw [← ewn]; exact below_alloc wd _
          have hnew : GBx wn wd.heap.size nils nils := by rw [← ewn]; exact GBx.new wd nils nils
          rw [ewn]
          obtain ⟨b7, eb⟩ : ∃ b, wd.heap.size = b := ⟨_, rfl⟩
          have H7 : Hid (GBx wn b7 nils nils ∧ w.heap.size + 2 ≤ b7) := ⟨by rw [← eb]; exact hnew, by have := HL.out.lt; omega⟩
          have H7B : Hid (¬ (ta ≤ b7 ∧ b7 < tb)) := fun h => by have := HT.out.2.2.2; omega
          have HBn : Hid (RowKit.Below w.heap.size w wn) := below_then2 HB.out bn
          have HGn : Hid (GBx wn w.heap.size (.slice tp tn tc) (.slice (some ⟨g, 0, none⟩) n cg)) := HG.out.later bn
          have HLn : Hid (VBx wn (w.heap.size + 1) (.int .i64 9223372036854775807) 3) := HL.out.later bn
          have HTn : Hid (Tnd nx bk ∧ NIn (fun k => ta ≤ k ∧ k < tb) wn (.slice (some ⟨g4, 0, none⟩) n c4) bk ∧ w.heap.size + 2 ≤ ta ∧ tb ≤ wn.heap.size) := ⟨HT.out.1, HT.out.2.1.later bn, HT.out.2.2.1, Nat.le_trans HT.out.2.2.2 bn.size⟩
          have H8n : Hid (VBx wn b8 nils 72 ∧ w.heap.size + 2 ≤ b8) := ⟨H8.out.1.later bn, H8.out.2⟩
          rw [eb]
          clear ewn hnew bn eb
          clear HB HG HL HT H8
          have HB := HBn
          have HG := HGn
          have HL := HLn
          have HT := HTn
          have H8 := H8n
          clear HBn HGn HLn HTn H8n
          refine hKc.out _ _ ⟨HG.out.c0, HG.out.c1⟩ (fun hHeld => ?_)
          clear hKc Kc
          generalize wn = wd at *
          try simp only [Act.put, List.setIfInBounds_toArray, List.set_cons_zero, List.set_cons_succ]

          refine wpAnyH_ready (rs := [3]) (by kernel_rfl) (by simp) ?_
          refine AllReadyH.cons (by simp; rfl) (fun Kc hKc => ?_) AllReadyH.nil
          go_simp
          refine (unreached_at hz).mono ?_
          rintro e wn ⟨gf, rfl, bn, hO⟩
          have HBn : Hid (RowKit.Below w.heap.size w wn) := below_then2 HB.out bn
          have HGn : Hid (GBx wn w.heap.size (.slice tp tn tc) (.slice (some ⟨g, 0, none⟩) n cg)) := HG.out.later bn
          have HLn : Hid (VBx wn (w.heap.size + 1) (.int .i64 9223372036854775807) 3) := HL.out.later bn
          have HTn : Hid (Tnd nx bk ∧ NIn (fun k => ta ≤ k ∧ k < tb) wn (.slice (some ⟨g4, 0, none⟩) n c4) bk ∧ w.heap.size + 2 ≤ ta ∧ tb ≤ wn.heap.size) := ⟨HT.out.1, HT.out.2.1.later bn, HT.out.2.2.1, Nat.le_trans HT.out.2.2.2 bn.size⟩
          have H7n : Hid (GBx wn b7 nils nils ∧ w.heap.size + 2 ≤ b7) := ⟨H7.out.1.later bn, H7.out.2⟩
          have H8n : Hid (VBx wn b8 nils 72 ∧ w.heap.size + 2 ≤ b8) := ⟨H8.out.1.later bn, H8.out.2⟩
          have HO : Hid (wn.ownsRow (w.heap.size + 2) 3 1 (.slice (some ⟨gf, 0, none⟩) n n) n (I64 (nz (List.replicate n NW))) ∧ tb ≤ gf) := ⟨B.own_mono hO (by have := HT.out.2.2; have := HL.out.lt; omega), by have := (hO.lt gf rfl).1; have := HT.out.2.2.2; omega⟩
          clear hO bn
          clear HB HG HL HT H7 H8
          have HB := HBn
          have HG := HGn
          have HL := HLn
          have HT := HTn
          have H7 := H7n
          have H8 := H8n
          clear HBn HGn HLn HTn H7n H8n
          refine hKc.out _ _ ⟨HG.out.c0, HG.out.c1⟩ (fun hHeld => ?_)
          clear hKc Kc
          generalize wn = wd at *
          try simp only [Act.put, List.setIfInBounds_toArray, List.set_cons_zero, List.set_cons_succ]

          refine wpAnyH_ready (rs := [6]) (by kernel_rfl) (by simp) ?_
          refine AllReadyH.cons (by simp; rfl) (fun Kc hKc => ?_) AllReadyH.nil
          have d0 := H7.out.1.c0
          have d1 := H7.out.1.c1
          have f0 := H7.out.1.f0 0
          have f1 := H7.out.1.f0 1
          go_simp
          clear d0 d1 f0 f1
          obtain ⟨wn, ewn⟩ : ∃ wn, (wd.setCell ⟨b7, 0, none⟩ (.slice tp tn tc)).setCell ⟨b7, 1, none⟩ (.slice (some ⟨g4, 0, none⟩) n c4) = wn := ⟨_, rfl⟩
          have hk : Kept (· = b7) wd wn := by rw [← ewn]; exact kept_two b7 _ _
          have hnew : GBx wn b7 (.slice tp tn tc) (.slice (some ⟨g4, 0, none⟩) n c4) := by rw [← ewn]; exact H7.out.1.put _ _
          rw [ewn]
          have h7 := H7.out.2
          have H7n : Hid (GBx wn b7 (.slice tp tn tc) (.slice (some ⟨g4, 0, none⟩) n c4) ∧ w.heap.size + 2 ≤ b7) := ⟨hnew, h7⟩
          have HBn : Hid (RowKit.Below w.heap.size w wn) := hk.into HB.out (fun b hb e => by omega) (Nat.le_refl _)
          have HGn : Hid (GBx wn w.heap.size (.slice tp tn tc) (.slice (some ⟨g, 0, none⟩) n cg)) := HG.out.far hk (by omega)
          have HLn : Hid (VBx wn (w.heap.size + 1) (.int .i64 9223372036854775807) 3) := HL.out.far hk (by omega)
          have HTn : Hid (Tnd nx bk ∧ NIn (fun k => ta ≤ k ∧ k < tb) wn (.slice (some ⟨g4, 0, none⟩) n c4) bk ∧ w.heap.size + 2 ≤ ta ∧ tb ≤ wn.heap.size) := ⟨HT.out.1, HT.out.2.1.far hk (fun k hk2 e => by subst e; exact absurd hk2 (by have := H7B.out; omega)), HT.out.2.2.1, Nat.le_trans HT.out.2.2.2 hk.size⟩
          have HOn : Hid (wn.ownsRow (w.heap.size + 2) 3 1 (.slice (some ⟨gf, 0, none⟩) n n) n (I64 (nz (List.replicate n NW))) ∧ tb ≤ gf) := ⟨O.own_far HO.out.1 hk fun b hb e => O.own_not HO.out.1 H7.out.1 (by decide) (by rw [← e]; exact hb), HO.out.2⟩
          have H8n : Hid (VBx wn b8 nils 72 ∧ w.heap.size + 2 ≤ b8) := ⟨H8.out.1.far hk (fun e => by have h1 : wd.heap[b8]? = _ := H8.out.1; have h2 : wd.heap[b7]? = _ := H7.out.1; rw [e, h2] at h1; simp at h1), H8.out.2⟩
          clear hk hnew ewn h7
          clear HB HG HL HT HO H7 H8
          have HB := HBn
          have HG := HGn
          have HL := HLn
          have HT := HTn
          have HO := HOn
          have H7 := H7n
          have H8 := H8n
          clear HBn HGn HLn HTn HOn H7n H8n
          refine hKc.out _ _ ⟨HG.out.c0, HG.out.c1⟩ (fun hHeld => ?_)
          clear hKc Kc
          generalize wn = wd at *
          try simp only [Act.put]

          refine wpAnyH_ready (rs := [7]) (by kernel_rfl) (by simp) ?_
          refine AllReadyH.cons (by simp; rfl) (fun Kc hKc => ?_) AllReadyH.nil
          have d0 := H8.out.1.c
          have f0 := H8.out.1.f
          go_simp
          clear d0 f0
          obtain ⟨wn, ewn⟩ : ∃ wn, wd.setCell ⟨b8, 0, none⟩ (.slice (some ⟨gf, 0, none⟩) n n) = wn := ⟨_, rfl⟩
          have hk : Kept (· = b8) wd wn := by rw [← ewn]; exact Kept.setCell b8 0 _
          have hnew : VBx wn b8 (.slice (some ⟨gf, 0, none⟩) n n) 72 := by rw [← ewn]; exact H8.out.1.put _
          rw [ewn]
          have h8 := H8.out.2
          have HGn : Hid (GBx wn w.heap.size (.slice tp tn tc) (.slice (some ⟨g, 0, none⟩) n cg)) := HG.out.far hk (by omega)
          have HR : Hid (Lra w wn n b7 b8 gf (.slice tp tn tc) (.slice (some ⟨g, 0, none⟩) n cg) (.slice (some ⟨g4, 0, none⟩) n c4) S (fun k => ta ≤ k ∧ k < tb) nx bk) := {
            bel := hk.into HB.out (fun b hb e => by omega) (Nat.le_refl _)
            gx := HGn.out
            le := HL.out.far hk (by omega)
            bx := H7.out.1.far hk (fun e => by have h1 : wd.heap[b8]? = _ := H8.out.1; have h2 : wd.heap[b7]? = _ := H7.out.1; rw [← e, h2] at h1; simp at h1)
            fx := hnew
            nin := HT.out.2.1.far hk (fun k hk2 e => by subst e; exact absurd hk2 (by have := H8B.out; omega))
            tnd := HT.out.1
            own := O.own_far HO.out.1 hk fun b hb e => O.own_not HO.out.1 H8.out.1 (by decide) (by rw [← e]; exact hb)
            l7 := H7.out.2
            l8 := h8
            lf := by have := (HO.out.1.lt gf rfl).1; omega
            tf := fun h => by have := HO.out.2; omega
            tl := fun k h => by have := HT.out.2.2.1; omega }
          clear HG HB HL HT HO H7 H8 hk hnew ewn h8
          refine hKc.out _ _ ⟨HGn.out.c0, HGn.out.c1⟩ (fun hHeld => ?_)
          clear hKc Kc HGn
          generalize wn = wd at *
          try simp only [Act.put]

          refine wpAnyH_done (by kernel_rfl) (NoPanic.normal ?_) _
          clear hHeld
          go_wp2_with fail
          go_meet
          case rel => exact ⟨b7, b8, gf, g4, c4, _, bk, rfl, rfl, HR⟩
      · go_simp
        obtain ⟨wn, ewn⟩ : ∃ wn, wd.alloc (Obj.cells #[nils, nils] 70) = wn := ⟨_, rfl⟩
        have bn : RowKit.Below wd.heap.size wd wn := by rw [← ewn]; exact below_alloc wd _
        have hnew : GBx wn wd.heap.size nils nils := by rw [← ewn]; exact GBx.new wd nils nils
        rw [ewn]
        obtain ⟨b7, eb⟩ : ∃ b, wd.heap.size = b := ⟨_, rfl⟩
        have H7 : Hid (GBx wn b7 nils nils ∧ w.heap.size + 2 ≤ b7) := ⟨by rw [← eb]; exact hnew, by have := HL.out.lt; omega⟩
        have HBn : Hid (RowKit.Below w.heap.size w wn) := below_then2 HB.out bn
        have HGn : Hid (GBx wn w.heap.size (.slice tp tn tc) (.slice (some ⟨g, 0, none⟩) n cg)) := HG.out.later bn
        have HLn : Hid (VBx wn (w.heap.size + 1) (.int .i64 9223372036854775807) 3) := HL.out.later bn
        have H8n : Hid (VBx wn b8 nils 72 ∧ w.heap.size + 2 ≤ b8) := ⟨H8.out.1.later bn, H8.out.2⟩
        rw [eb]
        clear ewn hnew bn eb
        clear HB HG HL H8
        have HB := HBn
        have HG := HGn
        have HL := HLn
        have H8 := H8n
        clear HBn HGn HLn H8n
        refine hKc.out _ _ ⟨HG.out.c0, HG.out.c1⟩ (fun hHeld => ?_)
        clear hKc Kc
        generalize wn = wd at *
        try simp only [Act.put, List.setIfInBounds_toArray, List.set_cons_zero, List.set_cons_succ]

        refine wpAnyH_ready (rs := [1]) (by kernel_rfl) (by simp) ?_
        refine AllReadyH.cons (by simp; rfl) (fun Kc hKc => ?_) AllReadyH.nil
        go_simp
        refine (turned_at (S := S) hn hz (HNX.out _ HB.out) hwf hnd).mono ?_
        rintro e wn ⟨nvb, bk, rfl, hT, hN, bn⟩
        obtain ⟨g4, c4, e4, -⟩ := hN.row
        rw [hT.1, hn] at e4
        subst e4
        have HBn : Hid (RowKit.Below w.heap.size w wn) := below_then2 HB.out bn
        have HGn : Hid (GBx wn w.heap.size (.slice tp tn tc) (.slice (some ⟨g, 0, none⟩) n cg)) := HG.out.later bn
        have HLn : Hid (VBx wn (w.heap.size + 1) (.int .i64 9223372036854775807) 3) := HL.out.later bn
        have H7n : Hid (GBx wn b7 nils nils ∧ w.heap.size + 2 ≤ b7) := ⟨H7.out.1.later bn, H7.out.2⟩
        have H8n : Hid (VBx wn b8 nils 72 ∧ w.heap.size + 2 ≤ b8) := ⟨H8.out.1.later bn, H8.out.2⟩
        obtain ⟨ta, hta⟩ : ∃ ta, ta = wd.heap.size := ⟨_, rfl⟩
        obtain ⟨tb, htb⟩ : ∃ tb, tb = wn.heap.size := ⟨_, rfl⟩
        have HT : Hid (Tnd nx bk ∧ NIn (fun k => ta ≤ k ∧ k < tb) wn (.slice (some ⟨g4, 0, none⟩) n c4) bk ∧ w.heap.size + 2 ≤ ta ∧ tb ≤ wn.heap.size) := ⟨hT, by rw [hta, htb]; exact hN, by have := HL.out.lt; omega, by omega⟩
        have H7B : Hid (¬ (ta ≤ b7 ∧ b7 < tb)) := fun h => by have := H7.out.1.lt; omega
        have H8B : Hid (¬ (ta ≤ b8 ∧ b8 < tb)) := fun h => by have := H8.out.1.lt; omega
        clear hT hN bn hta htb
        clear HB HG HL H7 H8
        have HB := HBn
        have HG := HGn
        have HL := HLn
        have H7 := H7n
        have H8 := H8n
        clear HBn HGn HLn H7n H8n
        refine hKc.out _ _ ⟨HG.out.c0, HG.out.c1⟩ (fun hHeld => ?_)
        clear hKc Kc
        generalize wn = wd at *
        try simp only [Act.put, List.setIfInBounds_toArray, List.set_cons_zero, List.set_cons_succ]

        refine wpAnyH_ready (rs := [3]) (by kernel_rfl) (by simp) ?_
        refine AllReadyH.cons (by simp; rfl) (fun Kc hKc => ?_) AllReadyH.nil
        go_simp
        refine (unreached_at hz).mono ?_
        rintro e wn ⟨gf, rfl, bn, hO⟩
        have HBn : Hid (RowKit.Below w.heap.size w wn) := below_then2 HB.out bn
        have HGn : Hid (GBx wn w.heap.size (.slice tp tn tc) (.slice (some ⟨g, 0, none⟩) n cg)) := HG.out.later bn
        have HLn : Hid (VBx wn (w.heap.size + 1) (.int .i64 9223372036854775807) 3) := HL.out.later bn
        have HTn : Hid (Tnd nx bk ∧ NIn (fun k => ta ≤ k ∧ k < tb) wn (.slice (some ⟨g4, 0, none⟩) n c4) bk ∧ w.heap.size + 2 ≤ ta ∧ tb ≤ wn.heap.size) := ⟨HT.out.1, HT.out.2.1.later bn, HT.out.2.2.1, Nat.le_trans HT.out.2.2.2 bn.size⟩
        have H7n : Hid (GBx wn b7 nils nils ∧ w.heap.size + 2 ≤ b7) := ⟨H7.out.1.later bn, H7.out.2⟩
        have H8n : Hid (VBx wn b8 nils 72 ∧ w.heap.size + 2 ≤ b8) := ⟨H8.out.1.later bn, H8.out.2⟩
        have HO : Hid (wn.ownsRow (w.heap.size + 2) 3 1 (.slice (some ⟨gf, 0, none⟩) n n) n (I64 (nz (List.replicate n NW))) ∧ tb ≤ gf) := ⟨B.own_mono hO (by have := HT.out.2.2; have := HL.out.lt; omega), by have := (hO.lt gf rfl).1; have := HT.out.2.2.2; omega⟩
        clear hO bn
        clear HB HG HL HT H7 H8
        have HB := HBn
        have HG := HGn
        have HL := HLn
        have HT := HTn
        have H7 := H7n
        have H8 := H8n
        clear HBn HGn HLn HTn H7n H8n
        refine hKc.out _ _ ⟨HG.out.c0, HG.out.c1⟩ (fun hHeld => ?_)
        clear hKc Kc
        generalize wn = wd at *
        try simp only [Act.put, List.setIfInBounds_toArray, List.set_cons_zero, List.set_cons_succ]

        refine wpAnyH_ready (rs := [6]) (by kernel_rfl) (by simp) ?_
        refine AllReadyH.cons (by simp; rfl) (fun Kc hKc => ?_) AllReadyH.nil
        have d0 := H7.out.1.c0
        have d1 := H7.out.1.c1
        have f0 := H7.out.1.f0 0
        have f1 := H7.out.1.f0 1
        go_simp
        clear d0 d1 f0 f1
        obtain ⟨wn, ewn⟩ : ∃ wn, (wd.setCell ⟨b7, 0, none⟩ (.slice tp tn tc)).setCell ⟨b7, 1, none⟩ (.slice (some ⟨g4, 0, none⟩) n c4) = wn := ⟨_, rfl⟩
        have hk : Kept (· = b7) wd wn := by rw [← ewn]; exact kept_two b7 _ _
        have hnew : GBx wn b7 (.slice tp tn tc) (.slice (some ⟨g4, 0, none⟩) n c4) := by rw [← ewn]; exact H7.out.1.put _ _
        rw [ewn]
        have h7 := H7.out.2
        have H7n : Hid (GBx wn b7 (.slice tp tn tc) (.slice (some ⟨g4, 0, none⟩) n c4) ∧ w.heap.size + 2 ≤ b7) := ⟨hnew, h7⟩
        have HBn : Hid (RowKit.Below w.heap.size w wn) := hk.into HB.out (fun b hb e => by omega) (Nat.le_refl _)
        have HGn : Hid (GBx wn w.heap.size (.slice tp tn tc) (.slice (some ⟨g, 0, none⟩) n cg)) := HG.out.far hk (by omega)
        have HLn : Hid (VBx wn (w.heap.size + 1) (.int .i64 9223372036854775807) 3) := HL.out.far hk (by omega)
        have HTn : Hid (Tnd nx bk ∧ NIn (fun k => ta ≤ k ∧ k < tb) wn (.slice (some ⟨g4, 0, none⟩) n c4) bk ∧ w.heap.size + 2 ≤ ta ∧ tb ≤ wn.heap.size) := ⟨HT.out.1, HT.out.2.1.far hk (fun k hk2 e => by subst e; exact absurd hk2 (by have := H7B.out; omega)), HT.out.2.2.1, Nat.le_trans HT.out.2.2.2 hk.size⟩
        have HOn : Hid (wn.ownsRow (w.heap.size + 2) 3 1 (.slice (some ⟨gf, 0, none⟩) n n) n (I64 (nz (List.replicate n NW))) ∧ tb ≤ gf) := ⟨O.own_far HO.out.1 hk fun b hb e => O.own_not HO.out.1 H7.out.1 (by decide) (by rw [← e]; exact hb), HO.out.2⟩
        have H8n : Hid (VBx wn b8 nils 72 ∧ w.heap.size + 2 ≤ b8) := ⟨H8.out.1.far hk (fun e => by have h1 : wd.heap[b8]? = _ := H8.out.1; have h2 : wd.heap[b7]? = _ := H7.out.1; rw [e, h2] at h1; simp at h1), H8.out.2⟩
        clear hk hnew ewn h7
        clear HB HG HL HT HO H7 H8
        have HB := HBn
        have HG := HGn
        have HL := HLn
        have HT := HTn
        have HO := HOn
        have H7 := H7n
        have H8 := H8n
        clear HBn HGn HLn HTn HOn H7n H8n
        refine hKc.out _ _ ⟨HG.out.c0, HG.out.c1⟩ (fun hHeld => ?_)
        clear hKc Kc
        generalize wn = wd at *
        try simp only [Act.put]

        refine wpAnyH_ready (rs := [7]) (by kernel_rfl) (by simp) ?_
        refine AllReadyH.cons (by simp; rfl) (fun Kc hKc => ?_) AllReadyH.nil
        have d0 := H8.out.1.c
        have f0 := H8.out.1.f
        go_simp
        clear d0 f0
        obtain ⟨wn, ewn⟩ : ∃ wn, wd.setCell ⟨b8, 0, none⟩ (.slice (some ⟨gf, 0, none⟩) n n) = wn := ⟨_, rfl⟩
        have hk : Kept (· = b8) wd wn := by rw [← ewn]; exact Kept.setCell b8 0 _
        have hnew : VBx wn b8 (.slice (some ⟨gf, 0, none⟩) n n) 72 := by rw [← ewn]; exact H8.out.1.put _
        rw [ewn]
        have h8 := H8.out.2
        have HGn : Hid (GBx wn w.heap.size (.slice tp tn tc) (.slice (some ⟨g, 0, none⟩) n cg)) := HG.out.far hk (by omega)
        have HR : Hid (Lra w wn n b7 b8 gf (.slice tp tn tc) (.slice (some ⟨g, 0, none⟩) n cg) (.slice (some ⟨g4, 0, none⟩) n c4) S (fun k => ta ≤ k ∧ k < tb) nx bk) := {
          bel := hk.into HB.out (fun b hb e => by omega) (Nat.le_refl _)
          gx := HGn.out
          le := HL.out.far hk (by omega)
          bx := H7.out.1.far hk (fun e => by have h1 : wd.heap[b8]? = _ := H8.out.1; have h2 : wd.heap[b7]? = _ := H7.out.1; rw [← e, h2] at h1; simp at h1)
          fx := hnew
          nin := HT.out.2.1.far hk (fun k hk2 e => by subst e; exact absurd hk2 (by have := H8B.out; omega))
          tnd := HT.out.1
          own := O.own_far HO.out.1 hk fun b hb e => O.own_not HO.out.1 H8.out.1 (by decide) (by rw [← e]; exact hb)
          l7 := H7.out.2
          l8 := h8
          lf := by have := (HO.out.1.lt gf rfl).1; omega
          tf := fun h => by have := HO.out.2; omega
          tl := fun k h => by have := HT.out.2.2.1; omega }
        clear HG HB HL HT HO H7 H8 hk hnew ewn h8
        refine hKc.out _ _ ⟨HGn.out.c0, HGn.out.c1⟩ (fun hHeld => ?_)
        clear hKc Kc HGn
        generalize wn = wd at *
        try simp only [Act.put]

        refine wpAnyH_done (by kernel_rfl) (NoPanic.normal ?_) _
        clear hHeld
        go_wp2_with fail
        go_meet
        case rel => exact ⟨b7, b8, gf, g4, c4, _, bk, rfl, rfl, HR⟩

  case rest =>
    obtain ⟨b7, b8, gf, g4, c4, T, bk, rfl, rfl, HR⟩ := hcut
    have HOR : Hid (IIn wc p M (nz o)) := hO.later HR.out.bel
    have HOB : Hid (∀ a, p = some a → 0 < M → a.block < w.heap.size) := fun a e h0 => by subst e; exact hO.lt h0
    clear hO hNX
    go_wp2_with fail
    refine (bwd_is _ _ _ _).mono ?_
    rintro e wB ⟨rfl, rfl⟩
    obtain ⟨W0, eW0⟩ : ∃ W0, wc.alloc (Obj.cells #[Value.slice p M c] 72) = W0 := ⟨_, rfl⟩
    have hbn : RowKit.Below wc.heap.size wc W0 := by rw [← eW0]; exact below_alloc wc _
    have HR0 : Hid (Lra w W0 n b7 b8 gf (.slice tp tn tc) (.slice (some ⟨g, 0, none⟩) n cg) (.slice (some ⟨g4, 0, none⟩) n c4) S T nx bk) := HR.out.later hbn
    have hBx : VBx W0 wc.heap.size (.slice p M c) 72 := by rw [← eW0]; exact VBx.new wc _ _
    obtain ⟨Bs, eBs⟩ : ∃ Bs, wc.heap.size = Bs := ⟨_, rfl⟩
    have hBs : w.heap.size + 2 ≤ Bs ∧ b7 < Bs ∧ b8 < Bs ∧ gf < Bs := by
      have h1 := HR.out.bx.lt
      have h2 := HR.out.fx.lt
      have h3 := (HR.out.own.lt gf rfl).2
      have h4 := HR.out.le.lt
      omega
    obtain ⟨b, off, hbl, hbg, hbp, hbc⟩ : ∃ b off, b < W0.heap.size ∧ (b ≠ gf ∧ b ≠ w.heap.size + 1) ∧ (0 < M → p = some ⟨b, off, none⟩) ∧ ∀ j, j < M → W0.cell? ⟨b, off + j, none⟩ = some (.int .i64 ((o.getD j 0 : Nat) : Int)) := by
      have hI := HOR.out.later hbn
      by_cases h0 : 0 < M
      · obtain ⟨b, off, rfl, hcs⟩ := hI.cells h0
        have hb := HOB.out _ rfl h0
        have hlf := HR.out.lf
        have hbn2 := HR.out.bel.size
        have hbn3 := hbn.size
        refine ⟨b, off, by simp at hb; omega, by simp at hb; omega, fun _ => rfl, fun j hj => by rw [hcs j hj, nz_getD]⟩
      · exact ⟨wc.heap.size, 0, hBx.lt, by omega, fun h => absurd h h0, fun j hj => by omega⟩
    rw [eW0]
    rw [eBs] at hBx ⊢
    clear HR hbn eW0 eBs HOB HOR
    go_wp2_with fail
    have hgl : gf < W0.heap.size := (HR0.out.own.lt gf rfl).2
    have hll : w.heap.size + 1 < W0.heap.size := HR0.out.le.lt
    have hlf := HR0.out.lf
    have hTb : ∀ k, (k = Bs ∨ k = b) → k < W0.heap.size := fun k hk => by
      have := hBx.lt
      rcases hk with rfl | rfl <;> omega
    have HPL : Hid (∀ x, 0 < M → o.getD x 0 < n) := fun x h0 => by
      have h1 : ∀ y, y ∈ o → y < n := fun y hy => (hs.all y).1 hy
      by_cases hx : x < o.length
      · rw [List.getD, List.getElem?_eq_getElem hx]; exact h1 _ (List.getElem_mem _)
      · have : 0 < n := by
          have := h1 o[0] (List.getElem_mem (by omega))
          omega
        rw [List.getD, List.getElem?_eq_none (by omega)]; exact this
    have hI0 : Lri W0 W0 (w.heap.size + 1) gf (w.heap.size + 2) n nx o M [] (List.replicate n NW) NW := {
      kep := Kept.refl _ _
      far := HR0.out.own
      lst := HR0.out.le
      go := fun _ => by
        have := Lst.start nx
        rw [hn] at this
        rw [List.length_nil, Nat.sub_zero, ← hM, List.drop_length]
        exact this }
    refine (wpIn_wide (n := 9)).1 ?_
    refine wpIn_rangeFunc_ownG (F := Fence.wide) (n := 9) (P := Tryz.prog) rfl (by decide) (gf := 85) (lb := #[.pointer (some ⟨Bs, 0, none⟩)]) rfl trivial (enters_of Tryz.func85 (by kernel_rfl) rfl)
      (bwd_stops Fence.wide (9 - 1) trivial rfl (by decide) Bs b off p M c o (by have := nodup_lt (n := n) hs.nd fun x hx => (hs.all x).1 hx; omega) W0 hBx.lt (fun _ => hbl) hbp hBx.c hbc) Kb.trans (Kb.put hTb) (RowKit.Below.refl _ _) (fun _ => rfl)
      (fun pre W => ∃ f m, Lri W0 W (w.heap.size + 1) gf (w.heap.size + 2) n nx o M pre f m)
      (fun _ _ _ => False)
      (Lri.own hgl hll)
      (fun _ _ _ _ _ hs _ _ => hs)
      ⟨_, _, hI0⟩
      (fun x => { tmps := #[Value.agg #[Value.slice tp tn tc, Value.slice (some ⟨g, 0, none⟩) n cg], Value.slice p M c, Value.pointer (some ⟨w.heap.size, 0, none⟩), undef, Value.int .i64 0, Value.bool false,
          Value.pointer (some ⟨w.heap.size + 1, 0, none⟩), Value.pointer (some ⟨b7, 0, none⟩), Value.pointer (some ⟨b8, 0, none⟩), undef, .int .i64 ((o.getD x 0 : Nat) : Int), undef, u12, u13, u14, u15, Value.slice p M c,
          seqB Bs, .int .i64 (x : Int), .int .i64 ((o.getD x 0 : Nat) : Int), undef, undef, undef, undef, undef, undef, undef, undef, undef, undef, undef, undef, undef, undef, undef, undef, undef, undef, undef, undef, undef, undef, undef, undef, undef, undef, undef, undef], defers := [] }) ?assign ?body ?done ?stop
    case assign =>
      intro l x W K hK
      gi_wp2
      exact hK
    case body =>
      rintro l pre x W ⟨f, m, hI⟩ hlt
      have HI : Hid (Lri W0 W (w.heap.size + 1) gf (w.heap.size + 2) n nx o M pre f m) := hI
      have hP := HPL.out x (by omega)
      have HX : Hid (pre ++ [x] = dwn M (pre ++ [x]).length → pre = dwn M pre.length ∧ x = M - 1 - pre.length ∧ pre.length < M) := fun h => by
        rw [List.length_append, List.length_singleton, dwn_succ] at h
        have := List.append_inj' h rfl
        exact ⟨this.1, by simpa using this.2, hlt⟩
      have hfl : f.length = n := by have := hI.far.1; rw [B.I64_length, nz_length] at this; omega
      have HFL : Hid (f.length = n) := hfl
      have hc8 := (HR0.out.fx.far hI.kep (fun e => HR0.out.notf e)).c
      have hcf : W.cell? ⟨gf, o.getD x 0, none⟩ = some (.int .i64 ((f.getD (o.getD x 0) 0 : Nat) : Int)) := O.own_cell hI.far (nzI_get (by omega))
      have HDR : Hid (pre = dwn M pre.length → x = M - 1 - pre.length → o = o.take (M - 1 - pre.length) ++ o.getD x 0 :: o.drop (M - pre.length)) := fun _ e => by
        show _ = _
        have hx : x < o.length := by omega
        rw [← e, List.getD, List.getElem?_eq_getElem hx, Option.getD_some, show M - pre.length = x + 1 by omega, List.getElem_cons_drop hx, List.take_append_drop]
      have HDP : Hid (x = M - 1 - pre.length → o.drop (M - (pre ++ [x]).length) = o.getD x 0 :: o.drop (M - pre.length)) := fun e => by
        show _ = _
        have hx : x < o.length := by omega
        rw [List.length_append, List.length_singleton, List.getD, List.getElem?_eq_getElem hx, Option.getD_some, show M - (pre.length + 1) = x by omega, show M - pre.length = x + 1 by omega, List.getElem_cons_drop hx]
      clear hI
      generalize o.getD x 0 = P at *
      have HFG : Hid (fg f P = f.getD P 0) := by
        show f.getD P NW = f.getD P 0
        simp [List.getD, List.getElem?_eq_getElem (show P < f.length by omega)]
      by_cases hfp : f.getD P 0 = NW
      · have HFU : Hid (fg f P = NW) := HFG.out.trans hfp
        rw [hfp, show ((NW : Nat) : Int) = 9223372036854775807 from rfl] at hcf
        have hc70 := (HR0.out.bx.far HI.out.kep (fun e => HR0.out.notg e)).c0
        have hc71 := (HR0.out.bx.far HI.out.kep (fun e => HR0.out.notg e)).c1
        have hbk : bk.length = n := HR0.out.tnd.1.trans hn
        have hNb : NIn T W (.slice (some ⟨g4, 0, none⟩) n c4) bk := HR0.out.nin.far HI.out.kep (fun k hk e => by
          rcases e with e | e
          · subst e; exact HR0.out.tf hk
          · have := HR0.out.tl k hk; omega)
        have hwfb : ∀ i v, v ∈ bk.getD i [] → v < n := fun i v hv => by
          have := ((HR0.out.tnd.2.1 v i).1 hv).lt
          omega
        have hrlb : ∀ i, (bk.getD i []).length ≤ 9000 := fun i => by
          have := nodup_lt (n := n) (HR0.out.tnd.2.2 i) fun v hv => hwfb i v hv
          omega
        have HCALL := flood_at (tv := .slice tp tn tc) hbk hz hNb hwfb hrlb HI.out.far HR0.out.tf hP HFU.out
        have HCL : Hid _ := HCALL
        clear HCALL hbc hbp hfp hbk hNb hwfb hrlb
        gi_wp2_with fail
        refine ⟨trivial, (CallsIn.inRound l (callsIn_wide.2 HCL.out)).mono ?_⟩
        rintro e w1 ⟨pq, cq, q, f', rfl, hq, hf', hk1, hFl⟩
        clear HCL hc8 hcf hc70 hc71
        obtain ⟨ql, hql⟩ : ∃ ql, q.length = ql := ⟨_, rfl⟩
        rw [hql] at hq ⊢
        have hq9 : ql ≤ 9000 := by
          have := nodup_lt (n := n) hFl.nd fun v hv => by have := (hFl.un v hv).2; rw [HR0.out.tnd.1, hn] at this; exact this
          omega
        have hK1 : Kept (fun k => k = gf ∨ k = w.heap.size + 1) W0 w1 := HI.out.kep.trans hk1 fun k _ e => .inl e
        have hgx := HR0.out.gx.far hK1 (fun e => by omega)
        have hcg := hgx.c1
        have hnx1 : NIn S w1 (.slice (some ⟨g, 0, none⟩) n cg) nx := HNX.out w1 (hK1.into HR0.out.bel (fun b hb e => by omega) (Nat.le_refl _))
        obtain ⟨pr, kr, hcr, hir⟩ := NIn.at hnx1 P (by omega)
        have HLB : Hid (VBx w1 (w.heap.size + 1) (.int .i64 (m : Int)) 3) := HI.out.lst.far hk1 (by omega)
        have HQ : Hid (w1.ownsRow W.heap.size 3 1 (.slice pq ql cq) ql (I64 (nz q))) := hq
        have HF1 : Hid (w1.ownsRow (w.heap.size + 2) 3 1 (.slice (some ⟨gf, 0, none⟩) n n) n (I64 (nz f'))) := hf'
        have HK1 : Hid (Kept (· = gf) W w1) := hk1
        have HFL1 : Hid (Flo bk f P q f') := hFl
        have HQL : Hid (q.length = ql) := hql
        clear hq hf' hk1 hFl hql hK1 hgx hnx1
        obtain ⟨rl, hrl⟩ : ∃ rl, (nx.getD P []).length = rl := ⟨_, rfl⟩
        have HHS : Hid (B.hasS (nz (nx.getD P [])) (P : Int) = true ↔ Ed nx P P) := by
          show _ ↔ _
          rw [B.hasS_iff]
          unfold Ed nz
          constructor
          · intro h
            obtain ⟨y, hy, e⟩ := List.mem_map.1 h
            rwa [show y = P by omega] at hy
          · intro h; exact List.mem_map.2 ⟨P, h, rfl⟩
        have hr9 : rl ≤ 9000 := by
          have := nodup_lt (n := n) (hnd P) fun v hv => hwf P v hv
          omega
        rw [hrl] at hcr hir
        have HIR : Hid (IIn w1 pr rl (nz (nx.getD P []))) := hir
        clear hir hrl
        gi_upto_region 7 with fail
        gi_cut [40] from 29 (fun v W2 => ∃ bb : Bool, v = .bool bb ∧ Hid (W2 = w1) ∧ Hid (bb = true ↔ (1 < q.length ∨ Ed nx P P)))
        case first =>
          by_cases hq1 : 1 < ql
          · gi_wp2_with fail
            refine ⟨trivial, ?_⟩
            gi_wp2_with fail
            gi_meet
            case rel => exact ⟨true, rfl, rfl, by show _ ↔ _; rw [HQL.out]; simp [hq1]⟩
          · gi_wp2_with fail
            refine ⟨trivial, (CallsIn.inRound l (callsIn_wide.2 (B.contains_is pr rl kr _ (P : Int) w1 HIR.out (by omega)))).mono ?_⟩
            rintro e w2 ⟨rfl, rfl⟩
            have HHB : Hid (B.hasS (nz (nx.getD P [])) (P : Int) = true ↔ (1 < q.length ∨ Ed nx P P)) := by
              show _ ↔ _
              rw [HHS.out, HQL.out]; simp [hq1]
            clear HHS
            generalize B.hasS (nz (nx.getD P [])) (P : Int) = bb at *
            gi_wp2_with fail
            gi_meet
            case rel => exact ⟨bb, by rw [show decide ((1 : Int) < (ql : Int)) = false from decide_eq_false (by omega)]; rfl, rfl, HHB⟩
        case rest =>
          obtain ⟨bb, rfl, HWC, HBB⟩ := hcut
          obtain rfl := HWC.out
          clear HWC hcg hcr
          have hTk : ∀ k, (k = Bs ∨ k = b) → k < W.heap.size ∧ ¬ (k = gf ∨ k = w.heap.size + 1) := fun k hk => by
            have := hTb k hk
            have := HI.out.kep.size
            rcases hk with rfl | rfl <;> omega
          cases bb with
          | true =>
            have hc := HBB.out.1 rfl
            have HIQ : Hid (IIn wc.drew pq ql (nz q)) := own_iin (O.own_later HQ.out (below_dr _ _ 1))
            have HNE : Hid (0 < ql) := by
              have h1 := HFL1.out.root
              have h2 := HQL.out
              show 0 < ql
              rw [← h2]; exact List.length_pos_of_mem h1
            have hcl := HLB.out.c
            have hfl2 := HLB.out.f
            have hmo : Tryz.prog.follows Departure.mixedOrders = true := by kernel_rfl
            have HC : Hid (1 < q.length ∨ Ed nx P P) := hc
            clear hc
            have HFIN : Hid (∀ mm : Nat, mm ∈ q → (∀ y ∈ q, mm ≤ y) → ∀ m' : Nat, m' = min m mm → ∀ w2 : World, w2 = (wc.drew.setCell ⟨w.heap.size + 1, 0, none⟩ (.int .i64 (m' : Int))) → KeepsFrom W0.heap.size W w2 ∧ Kb (fun k => k = Bs ∨ k = b) W w2 ∧ ∃ f m, Lri W0 w2 (w.heap.size + 1) gf (w.heap.size + 2) n nx o M (pre ++ [x]) f m) := by
              intro mm hm1 hm2 m' hm' w2 e2
              have hk2 : Kept (· = w.heap.size + 1) wc w2 := by rw [e2]; exact (Kept.of_below _ (below_dr _ _ 1)).trans (Kept.setCell _ 0 _) fun _ _ h => h
              have hk3 : Kept (fun k => k = gf ∨ k = w.heap.size + 1) W w2 := (HK1.out.wider fun _ _ e => .inl e).trans hk2 fun _ _ e => .inr e
              refine ⟨hk3.keepsFrom fun k hk => by omega, hk3.kb hTk, f', m', { kep := HI.out.kep.trans hk3 (fun _ _ e => e), far := O.own_far HF1.out hk2 (fun k hk e => by simp [Value.ownBlock] at hk; omega), lst := by rw [e2]; exact (show VBx wc.drew (w.heap.size + 1) (.int .i64 (m : Int)) 3 from HLB.out).put _, go := fun h => ?_ }⟩
              obtain ⟨h1, h2, h3⟩ := HX.out h
              rw [HDP.out h2]
              refine (HI.out.go h1).flood (by rw [hn]; exact hs) (HDR.out h1 h2) HR0.out.tnd (by rw [hn]; unfold NW; omega) HFU.out HFL1.out (fun _ => ⟨?_, by omega, fun y hy => by have := hm2 y hy; omega⟩) (fun hc => absurd HC.out hc)
              rcases Nat.le_total m mm with hh | hh
              · exact .inl (by omega)
              · exact .inr (by rw [show m' = mm by omega]; exact hm1)
            gi_wp2_with fail
            gi_region_with_o (refine ⟨trivial, ?_⟩; gi_at_call 55; refine (CallsIn.inRound l (callsIn_wide.2 (min_at HQL.out HIQ.out HNE.out hq9))).mono ?_; rintro e w2 ⟨mm, rfl, rfl, hm1, hm2⟩)
            all_goals
              gi_wp2_with fail
              exact HFIN.out _ hm1 hm2 _ rfl _ (by rw [show ((min m mm : Nat) : Int) = min (m : Int) (mm : Int) by omega]; rfl)
          | false =>
            have HIS : Hid (Lri W0 wc (w.heap.size + 1) gf (w.heap.size + 2) n nx o M (pre ++ [x]) f' m) := {
              kep := HI.out.kep.trans HK1.out (fun _ _ e => .inl e)
              far := HF1.out
              lst := HLB.out
              go := fun h => by
                obtain ⟨h1, h2, h3⟩ := HX.out h
                rw [HDP.out h2]
                exact (HI.out.go h1).flood (by rw [hn]; exact hs) (HDR.out h1 h2) HR0.out.tnd (by rw [hn]; unfold NW; omega) HFU.out HFL1.out (fun hc => absurd (HBB.out.2 hc) (by simp)) (fun _ => rfl) }
            gi_wp2_with fail
            exact ⟨HK1.out.keepsFrom (fun k hk => by omega), HK1.out.kb (fun k hk => ⟨(hTk k hk).1, fun e => (hTk k hk).2 (.inl e)⟩), _, _, HIS.out⟩
      · have hne : ¬ ((f.getD P 0 : Nat) : Int) = 9223372036854775807 := fun h => hfp (by unfold NW; omega)
        have HIS : Hid (Lri W0 W (w.heap.size + 1) gf (w.heap.size + 2) n nx o M (pre ++ [x]) f m) := { HI.out with
          go := fun h => by
            obtain ⟨h1, h2, h3⟩ := HX.out h
            rw [HDP.out h2]
            exact (HI.out.go h1).skip (by rw [HFG.out]; exact hfp) }
        clear hfp hbc hbp
        generalize f.getD P 0 = fp at *
        gi_wp2_with fail
        exact ⟨KeepsFrom.refl _ _, fun _ _ => rfl, _, _, HIS.out⟩
    case done =>
      rintro D ys W hD hS ⟨f, m, hI⟩ hK
      have hg := hI.go (by rw [hS, dwn_length])
      rw [hS, dwn_length, Nat.sub_self, List.drop_zero] at hg
      have HD : Hid ((m = NW ∧ ∀ x, ¬ OnR (Ed nx) x) ∨ (m < n ∧ OnR (Ed nx) m ∧ ∀ x, OnR (Ed nx) x → m ≤ x)) := by
        have := hg.done (by rw [hn]; exact hs) (by rw [hn]; unfold NW; omega)
        rw [hn] at this
        exact this
      have hcl := hI.lst.c
      have HB : Hid (RowKit.Below w.heap.size w (W.putObj D (.deferred none))) := (hI.kep.into HR0.out.bel (fun b hb e => by omega) (Nat.le_refl _)).trans (belowK_b (w := w) (Nat.le_refl _) W D _ _ (by have := HR0.out.bel.size; omega) hK rfl rfl)
      clear hg hI hbc hbp
      by_cases hm : m = NW
      · have hno : ∀ x, ¬ OnR (Ed nx) x := by
          rcases HD.out with h | h
          · exact h.2
          · have : m < n := h.1
            unfold NW at hm; omega
        have HN : Hid (∀ x, ¬ OnR (Ed nx) x) := hno
        clear HD hno
        rw [hm, show ((NW : Nat) : Int) = 9223372036854775807 from rfl] at hcl
        go_wp2_with fail
        refine ⟨by simp, .inl ⟨_, _, rfl, run_takeDeferred hK, ?_⟩⟩
        exact ⟨_, results_tmp2 rfl _ _ _, HB.out, .inl ⟨rfl, HN.out⟩⟩
      · have HN : Hid (m < n ∧ OnR (Ed nx) m ∧ ∀ x, OnR (Ed nx) x → m ≤ x) := by
          rcases HD.out with h | h
          · exact absurd h.1 hm
          · exact h
        have hne : ¬ ((m : Nat) : Int) = 9223372036854775807 := fun h => hm (by unfold NW; omega)
        clear HD hm
        go_wp2_with fail
        refine ⟨by simp, .inl ⟨_, _, rfl, run_takeDeferred hK, ?_⟩⟩
        exact ⟨_, results_tmp2 rfl _ _ _, HB.out, .inr ⟨m, rfl, HN.out⟩⟩
    case stop =>
      rintro D c pre W hD hpre hF
      exact absurd hF (fun h => h)
end Go.Proofs.YtkgjmejpbklabaaGreat
