/-
  Layer 15: how a graph lies. Layer 15: flood. Layer 15: unreached, and the library's slices.Repeat of one number. Layer 15: a walk that goes as deep as it can: what it keeps. Layer 15: settled.
-/
import Derived.Test.YtkgjmejpbklabaaGreatOa
import Derived.Test.YtkgjmejpbklabaaGreatN5
import Derived.Test.YtkgjmejpbklabaaGreatN8
import Derived.Test.YtkgjmejpbklabaaGreatBRa
import Derived.Laws.CopyRow
import Derived.Laws.OwnMore
import Derived.Laws.Bits64b
import Derived.Deep.LoopGhost
import Derived.BigRegion
namespace Go.Proofs.YtkgjmejpbklabaaGreat
open Go.RowKit
open B (IIn I64)
abbrev nils : Value := .slice none 0 0
/-- places as numbers -/
def nz (l : List Nat) : List Int := l.map fun (x : Nat) => (x : Int)
theorem nz_length (l : List Nat) : (nz l).length = l.length := by simp [nz]
theorem nz_getD (l : List Nat) (i : Nat) : (nz l).getD i 0 = ((l.getD i 0 : Nat) : Int) := by
  by_cases h : i < l.length <;> simp [nz, List.getD, h]
theorem nz_append (l m : List Nat) : nz (l ++ m) = nz l ++ nz m := by simp [nz]
theorem nz_set (l : List Nat) (i x : Nat) : (nz l).set i (x : Int) = nz (l.set i x) := by simp [nz, List.map_set]
theorem I64_set (xs : List Int) (i : Nat) (x : Int) : (I64 xs).set i (.int .i64 x) = I64 (xs.set i x) := by simp [I64, List.map_set]
theorem I64_append (xs ys : List Int) : I64 (xs ++ ys) = I64 xs ++ I64 ys := by simp [I64]
theorem I64_get {xs : List Int} {i : Nat} (h : i < xs.length) : (I64 xs)[i]? = some (.int .i64 (xs.getD i 0)) := by simp [I64, List.getD, h]
theorem nzI_get {l : List Nat} {i : Nat} (h : i < l.length) : (I64 (nz l))[i]? = some (.int .i64 ((l.getD i 0 : Nat) : Int)) := by
  rw [I64_get (by rw [nz_length]; exact h), nz_getD]
/-- of each place the places of those that it waits for: the lists lie in blocks of S -/
def NIn (S : Nat → Prop) (w : World) (nv : Value) (nx : List (List Nat)) : Prop :=
  ∃ g c, nv = .slice (some ⟨g, 0, none⟩) nx.length c ∧ S g ∧ g < w.heap.size ∧ ∀ i, i < nx.length → ∃ p k, w.cell? ⟨g, i, none⟩ = some (.slice p (nx.getD i []).length k) ∧ IIn w p (nx.getD i []).length (nz (nx.getD i [])) ∧ (∀ a, p = some a → 0 < (nx.getD i []).length → S a.block)
theorem NIn.keep {S : Nat → Prop} {w w' : World} {nv : Value} {nx : List (List Nat)} (h : NIn S w nv nx) (hs : w.heap.size ≤ w'.heap.size) (hk : ∀ k, S k → k < w.heap.size → w'.heap[k]? = w.heap[k]?) : NIn S w' nv nx := by
  obtain ⟨g, c, e, hS, hg, hc⟩ := h
  refine ⟨g, c, e, hS, by omega, fun i hi => ?_⟩
  obtain ⟨p, k, h1, h2, h3⟩ := hc i hi
  refine ⟨p, k, ?_, ⟨h2.len, fun h0 => ?_⟩, h3⟩
  · rw [World.cell?_of_block (w := w) (w' := w') (a := ⟨g, i, none⟩) (hk g hS hg)]; exact h1
  · obtain ⟨b, o, e2, hcc⟩ := h2.cells h0
    subst e2
    refine ⟨b, o, rfl, fun j hj => ?_⟩
    have hb : b < w.heap.size := World.block_lt_of_cell? w _ (hcc 0 h0)
    rw [World.cell?_of_block (w := w) (w' := w') (a := ⟨b, o + j, none⟩) (hk b (h3 _ rfl h0) hb)]
    exact hcc j hj
theorem NIn.later {S : Nat → Prop} {w w' : World} {nv : Value} {nx : List (List Nat)} (h : NIn S w nv nx) (hb : Below w.heap.size w w') : NIn S w' nv nx := h.keep hb.size fun k _ hk => hb.block k hk
theorem NIn.far {S T : Nat → Prop} {w w' : World} {nv : Value} {nx : List (List Nat)} (h : NIn S w nv nx) (hb : Kept T w w') (hd : ∀ k, S k → ¬ T k) : NIn S w' nv nx := h.keep hb.size fun k hS hk => hb.block k hk (hd k hS)
theorem NIn.wider {S T : Nat → Prop} {w : World} {nv : Value} {nx : List (List Nat)} (h : NIn S w nv nx) (hd : ∀ k, k < w.heap.size → S k → T k) : NIn T w nv nx := by
  obtain ⟨g, c, e, hS, hg, hc⟩ := h
  refine ⟨g, c, e, hd g hg hS, hg, fun i hi => ?_⟩
  obtain ⟨p, k, h1, h2, h3⟩ := hc i hi
  refine ⟨p, k, h1, h2, fun a ha h0 => hd _ ?_ (h3 a ha h0)⟩
  subst ha
  exact h2.lt h0
/-- where a place's list lies, now and later -/
theorem NIn.row {S : Nat → Prop} {w : World} {nv : Value} {nx : List (List Nat)} (h : NIn S w nv nx) : ∃ g c, nv = .slice (some ⟨g, 0, none⟩) nx.length c ∧ ∀ i, i < nx.length → ∃ p k, ∀ W : World, (∀ k, S k → k < w.heap.size → W.heap[k]? = w.heap[k]?) →
    W.cell? ⟨g, i, none⟩ = some (.slice p (nx.getD i []).length k) ∧ IIn W p (nx.getD i []).length (nz (nx.getD i [])) := by
  obtain ⟨g, c, e, hS, hg, hc⟩ := h
  refine ⟨g, c, e, fun i hi => ?_⟩
  obtain ⟨p, k, h1, h2, h3⟩ := hc i hi
  refine ⟨p, k, fun W hk => ⟨?_, h2.len, fun h0 => ?_⟩⟩
  · rw [World.cell?_of_block (w := w) (w' := W) (a := ⟨g, i, none⟩) (hk g hS hg)]; exact h1
  · obtain ⟨b, o, e2, hcc⟩ := h2.cells h0
    subst e2
    refine ⟨b, o, rfl, fun j hj => ?_⟩
    have hb : b < w.heap.size := World.block_lt_of_cell? w _ (hcc 0 h0)
    rw [World.cell?_of_block (w := w) (w' := W) (a := ⟨b, o + j, none⟩) (hk b (h3 _ rfl h0) hb)]
    exact hcc j hj
/-- a graph in a block of its own -/
def GBx (w : World) (b : Nat) (tv nv : Value) : Prop := w.heap[b]? = some (.cells #[tv, nv] 70 (0, 0))
theorem GBx.c0 {w : World} {b : Nat} {tv nv : Value} (h : GBx w b tv nv) : w.cell? ⟨b, 0, none⟩ = some tv := by rw [cell_of_row _ b 0 _ 70 (0, 0) h]; rfl
theorem GBx.c1 {w : World} {b : Nat} {tv nv : Value} (h : GBx w b tv nv) : w.cell? ⟨b, 1, none⟩ = some nv := by rw [cell_of_row _ b 1 _ 70 (0, 0) h]; rfl
theorem GBx.lt {w : World} {b : Nat} {tv nv : Value} (h : GBx w b tv nv) : b < w.heap.size := (Array.getElem?_eq_some_iff.1 h).1
theorem GBx.far {T : Nat → Prop} {w w' : World} {b : Nat} {tv nv : Value} (h : GBx w b tv nv) (hk : Kept T w w') (hb : ¬ T b) : GBx w' b tv nv := (hk.block b h.lt hb).trans h
theorem GBx.later {w w' : World} {b : Nat} {tv nv : Value} (h : GBx w b tv nv) (hb : Below w.heap.size w w') : GBx w' b tv nv := (hb.block b h.lt).trans h
theorem GBx.new (w : World) (tv nv : Value) : GBx (w.alloc (.cells #[tv, nv] 70)) w.heap.size tv nv := heap_alloc_new w _
namespace O
section
variable {w w' : World} {base : Nat} {t e : TypeId} {bytes : Nat} {v : Value} {n : Nat} {xs : List Value}
/-- 'append' of one element, made just now -/
theorem wpList_one {ops : Array Oper} {rest : List Oper} {o : Oper} {A : Act} {Q : Exit → Act → World → Prop} (hgd : o.guard = none) (s x : Operand) (E : ElT t e 1 bytes)
    (ho : o.op = .call { callee := .builtin .append, args := #[s, x], argTypes := #[t, t] }) (hs : A.eval s = v) (h : w.ownsRow base e 1 v n xs)
    (u : Value) {z : Nat} (hx : A.eval x = .slice (some ⟨z, 0, none⟩) 1 1) (hz : w.heap.size = z) (h1 : u.oneCell' = true) (hn : n + 1 ≤ 10000) (hb : base ≤ w.heap.size)
    (hK : ∀ p c w', w'.ownsRow base e 1 (.slice p (n + 1) c) (n + 1) (xs ++ [u]) → Kept (fun b => v.ownBlock = some b) w w' → (∀ g, (Value.slice p (n + 1) c).ownBlock = some g → v.ownBlock = some g ∨ w.heap.size ≤ g) → wpList Tryz.prog ops Q rest (A.put o.dst (.slice p (n + 1) c)) w') : wpList Tryz.prog ops Q (o :: rest) A (w.alloc (.cells #[u] e)) := by
  subst hz
  refine wpList_own_any hgd s x E ho hs (own_later h (below_alloc w _)) hx (own_one (cs := [u]) (base := 0) w rfl (Nat.zero_le _)) (one_one h1) hn (by simp; omega) ?_
  intro v' w' h2 h3 h4
  obtain ⟨p, c, rfl⟩ := own_shape h2
  refine hK p c w' h2 ((Kept.of_below _ (below_alloc w _)).trans h3 fun _ _ hx => hx) fun g hg => ?_
  rcases h4 with h4 | h4
  · exact .inl (h4 ▸ hg)
  · rw [hg] at h4
    simp at h4
    exact .inr (by omega)
end
end O
end Go.Proofs.YtkgjmejpbklabaaGreat
namespace Go.Proofs.YtkgjmejpbklabaaGreat
open Go.RowKit
open B (IIn I64)
theorem own_fg {w : World} {bF fb c n : Nat} {f : List Nat} (h : w.ownsRow bF 3 1 (.slice (some ⟨fb, 0, none⟩) n c) n (I64 (nz f))) : f.length = n ∧ ∀ t, t < n → w.cell? ⟨fb, t, none⟩ = some (.int .i64 ((fg f t : Nat) : Int)) := by
  have hl : f.length = n := by have := h.1; simpa [nz_length] using this
  refine ⟨hl, fun t ht => ?_⟩
  rw [O.own_cell h (nzI_get (by omega))]
  simp [fg, List.getD, show t < f.length by omega]
theorem own_put {w : World} {bF fb c n : Nat} {f : List Nat} (h : w.ownsRow bF 3 1 (.slice (some ⟨fb, 0, none⟩) n c) n (I64 (nz f))) (t x : Nat) :
    (w.setCell ⟨fb, t, none⟩ (.int .i64 (x : Int))).ownsRow bF 3 1 (.slice (some ⟨fb, 0, none⟩) n c) n (I64 (nz (f.set t x))) := by
  have := O.own_set h (g := fb) rfl t (.int .i64 (x : Int))
  rw [I64_set, nz_set] at this
  exact this
set_option maxHeartbeats 2000000 in
set_option maxRecDepth 100000 in
theorem flood_at {S : Nat → Prop} {w : World} {tv nv : Value} {bk : List (List Nat)} {bF fb c n r : Nat} {f0 : List Nat} (hn : bk.length = n) (hz : n ≤ 9000) (hNX : NIn S w nv bk) (hwf : ∀ i v, v ∈ bk.getD i [] → v < n) (hrl : ∀ i, (bk.getD i []).length ≤ 9000)
    (hF : w.ownsRow bF 3 1 (.slice (some ⟨fb, 0, none⟩) n c) n (I64 (nz f0))) (hS : ¬ S fb) (hr : r < n) (hu : fg f0 r = NW) :
    Calls Tryz.prog 28 #[.agg #[tv, nv], .int .i64 r, .slice (some ⟨fb, 0, none⟩) n c] w fun e w' => ∃ p cq q f, e = .returned (.slice p q.length cq) ∧ w'.ownsRow w.heap.size 3 1 (.slice p q.length cq) q.length (I64 (nz q)) ∧
      w'.ownsRow bF 3 1 (.slice (some ⟨fb, 0, none⟩) n c) n (I64 (nz f)) ∧ Kept (· = fb) w w' ∧ Flo bk f0 r q f := by
  have hfb : fb < w.heap.size := (hF.lt fb rfl).2
  have hc0 := (own_fg hF).2
  have hf0 := O.own_free hF
  go_enter Tryz.func28, Tryz.ntmps28
  go_wp2_with fail
  have hK0 : Kept (· = fb) w (((w.setCell ⟨fb, r, none⟩ (.int .i64 0)).alloc (Obj.cells #[tv, nv] 70)).alloc (Obj.cells #[Value.int .i64 (r : Int)] 3)) :=
    ((Kept.setCell (w := w) fb r (.int .i64 0)).trans (Kept.of_below (· = fb) (below_alloc _ _)) fun _ _ h => h).trans (Kept.of_below (· = fb) (below_alloc _ _)) fun _ _ h => h
  have HK0 : Hid (Kept (· = fb) w (((w.setCell ⟨fb, r, none⟩ (.int .i64 0)).alloc (Obj.cells #[tv, nv] 70)).alloc (Obj.cells #[Value.int .i64 (r : Int)] 3))) := hK0
  have HF0 : Hid ((((w.setCell ⟨fb, r, none⟩ (.int .i64 0)).alloc (Obj.cells #[tv, nv] 70)).alloc (Obj.cells #[Value.int .i64 (r : Int)] 3)).ownsRow bF 3 1 (.slice (some ⟨fb, 0, none⟩) n c) n (I64 (nz (f0.set r 0)))) :=
    O.own_later (O.own_later (own_put hF r 0) (below_alloc _ _)) (below_alloc _ _)
  have HG0 : Hid (GBx (((w.setCell ⟨fb, r, none⟩ (.int .i64 0)).alloc (Obj.cells #[tv, nv] 70)).alloc (Obj.cells #[Value.int .i64 (r : Int)] 3)) w.heap.size tv nv) := by
    have := (GBx.new (w.setCell ⟨fb, r, none⟩ (.int .i64 0)) tv nv).later (below_alloc _ (Obj.cells #[Value.int .i64 (r : Int)] 3))
    rw [show (w.setCell ⟨fb, r, none⟩ (.int .i64 0)).heap.size = w.heap.size by simp] at this
    exact this
  have HQ0 : Hid ((((w.setCell ⟨fb, r, none⟩ (.int .i64 0)).alloc (Obj.cells #[tv, nv] 70)).alloc (Obj.cells #[Value.int .i64 (r : Int)] 3)).ownsRow w.heap.size 3 1 (.slice (some ⟨w.heap.size + 1, 0, none⟩) 1 1) 1 (I64 (nz [r]))) := by
    have := O.own_one (base := w.heap.size) (size := 1) (e := 3) (cs := [Value.int .i64 (r : Int)]) ((w.setCell ⟨fb, r, none⟩ (.int .i64 0)).alloc (Obj.cells #[tv, nv] 70)) rfl (by simp)
    rw [show ((w.setCell ⟨fb, r, none⟩ (.int .i64 0)).alloc (Obj.cells #[tv, nv] 70)).heap.size = w.heap.size + 1 by simp] at this
    exact this
  generalize (((w.setCell ⟨fb, r, none⟩ (.int .i64 0)).alloc (Obj.cells #[tv, nv] 70)).alloc (Obj.cells #[Value.int .i64 (r : Int)] 3)) = W0 at HK0 HF0 HG0 HQ0 ⊢
  have hl0 := (own_fg hF).1
  have HD0 : Hid (Fld bk f0 r [r] (f0.set r 0) 0) := Fld.begin (by omega) (by omega) hu
  obtain ⟨g, cg, enx, hrow⟩ := hNX.row
  rw [hn] at enx
  subst enx
  have HROW : Hid (∀ i, i < n → ∃ p k, ∀ W : World, Kept (· = fb) w W → W.cell? ⟨g, i, none⟩ = some (.slice p (bk.getD i []).length k) ∧ IIn W p (bk.getD i []).length (nz (bk.getD i []))) := fun i hi => by
    obtain ⟨p, k, h⟩ := hrow i (by omega)
    exact ⟨p, k, fun W hW => h W fun k hk hlt => hW.block k hlt fun e => hS (e ▸ hk)⟩
  have hnw : bk.length < NW := by unfold NW; omega
  have HNN : Hid (bk.length = n) := hn
  clear hK0 hc0 hf0 hrow hNX hn
  go_loopw [7, 8] (fun v7 v8 W => ∃ (p : Option Addr) (cq i : Nat) (q f : List Nat), v7 = .slice p q.length cq ∧ v8 = .int .i64 i ∧ i ≤ q.length ∧ Hid (W.ownsRow w.heap.size 3 1 (.slice p q.length cq) q.length (I64 (nz q))) ∧
      Hid (W.ownsRow bF 3 1 (.slice (some ⟨fb, 0, none⟩) n c) n (I64 (nz f))) ∧ Hid (Kept (· = fb) w W) ∧ Hid (GBx W w.heap.size tv (.slice (some ⟨g, 0, none⟩) n cg)) ∧ Hid (Fld bk f0 r q f i)) (fun v7 v8 _ => n - (intV v8).toNat)
  case atStart => exact ⟨_, 1, 0, [r], f0.set r 0, rfl, rfl, by omega, HQ0, HF0, HK0, HG0, HD0⟩
  case round =>
    obtain ⟨p, cq, i, q, f, rfl, rfl, hi, HQ, HF, HK, HG, HD⟩ := hrel
    have hqn : q.length ≤ n := by have := HD.out.small; have := HNN.out; omega
    by_cases hiq : i < q.length
    · obtain ⟨t, ht⟩ : ∃ t, q[i]? = some t := ⟨q[i], by rw [List.getElem?_eq_getElem hiq]⟩
      have htn : t < n := by have := (HD.out.un t (List.mem_of_getElem? ht)).2; have := HNN.out; omega
      have HT : Hid (q[i]? = some t) := ht
      obtain ⟨gq, cq', eq, _, hcq, _⟩ := O.own_some HQ.out (by omega)
      simp only [Value.slice.injEq] at eq
      obtain ⟨rfl, _, rfl⟩ := eq
      have hct : wr.cell? ⟨gq, i, none⟩ = some (.int .i64 (t : Int)) := hcq i _ (by rw [nzI_get hiq]; simp [List.getD, ht])
      have hc1 := HG.out.c1
      obtain ⟨pr, kr, hrow⟩ := HROW.out t htn
      obtain ⟨hcr, hIr⟩ := hrow wr HK.out
      have HRW : Hid (∀ W : World, Kept (· = fb) w W → IIn W pr (bk.getD t []).length (nz (bk.getD t []))) := fun W hW => (hrow W hW).2
      have HFI : Hid (Fli bk f0 r q f i t 0) := HD.out.turn ht
      clear hcq hrow ht hIr HD
      have HWF : Hid (∀ v, v ∈ bk.getD t [] → v < n) := hwf t
      obtain ⟨row, hR⟩ : ∃ row, row = bk.getD t [] := ⟨_, rfl⟩
      have HR : Hid (bk.getD t [] = row) := hR.symm
      have hrl2 : row.length ≤ 9000 := by rw [hR]; exact hrl t
      rw [← hR] at HRW HWF hcr
      clear hR
      go_wp2_with fail
      clear hct hc1 hcr
      have htq : t ∈ q := List.mem_of_getElem? HT.out
      go_loopw [7, 33] (fun v7 v33 W => ∃ (p : Option Addr) (cq j : Nat) (q f : List Nat), v7 = .slice p q.length cq ∧ v33 = .int .i64 j ∧ j ≤ row.length ∧ Hid (W.ownsRow w.heap.size 3 1 (.slice p q.length cq) q.length (I64 (nz q))) ∧
          Hid (W.ownsRow bF 3 1 (.slice (some ⟨fb, 0, none⟩) n c) n (I64 (nz f))) ∧ Hid (Kept (· = fb) w W) ∧ Hid (GBx W w.heap.size tv (.slice (some ⟨g, 0, none⟩) n cg)) ∧ Hid (Fli bk f0 r q f i t j)) (fun v7 v33 _ => row.length - (intV v33).toNat)
      case atStart => exact ⟨_, cq, 0, q, f, rfl, rfl, by omega, HQ, HF, HK, HG, HFI⟩
      case round =>
        obtain ⟨p2, cq2, j, q2, f2, rfl, rfl, hj, HQ2, HF2, HK2, HG2, HFI2⟩ := hrel
        have hqn2 : q2.length ≤ n := by have := HFI2.out.small; have := HNN.out; omega
        by_cases hjr : j < row.length
        · obtain ⟨u, hu2⟩ : ∃ u, row[j]? = some u := ⟨row[j], by rw [List.getElem?_eq_getElem hjr]⟩
          have hun : u < n := HWF.out u (List.mem_of_getElem? hu2)
          have HU : Hid ((bk.getD t [])[j]? = some u) := by show _ = _; rw [HR.out]; exact hu2
          obtain ⟨rb, ro, rfl, hcr⟩ := (HRW.out wr HK2.out).cells (by omega)
          have hcu : wr.cell? ⟨rb, ro + j, none⟩ = some (.int .i64 (u : Int)) := by rw [hcr j hjr, nz_getD]; simp [List.getD, hu2]
          have hfc := (own_fg HF2.out).2
          have hcf : wr.cell? ⟨fb, u, none⟩ = some (.int .i64 ((fg f2 u : Nat) : Int)) := hfc u hun
          have hct : wr.cell? ⟨fb, t, none⟩ = some (.int .i64 ((fg f2 t : Nat) : Int)) := hfc t htn
          have hff : wr.frozen? ⟨fb, u, none⟩ = false := O.own_free HF2.out u
          have hlt : fg f2 t < n := by have := HFI2.out.lt (List.mem_of_getElem? HFI2.out.cur); have := HNN.out; omega
          clear hcr hfc hu2
          obtain ⟨x, hx⟩ : ∃ x, x = fg f2 u := ⟨_, rfl⟩
          obtain ⟨d, hd⟩ : ∃ d, d = fg f2 t := ⟨_, rfl⟩
          rw [← hd] at hct hlt
          rw [← hx] at hcf
          have HDD : Hid (d = fg f2 t) := hd
          have HXX : Hid (x = fg f2 u) := hx
          clear hd hx
          by_cases hnwu : x = NW
          · have HN : Hid (fg f2 u = NW) := by show _ = _; rw [← HXX.out]; exact hnwu
            have hcf2 : wr.cell? ⟨fb, u, none⟩ = some (.int .i64 9223372036854775807) := by rw [hcf, hnwu]; rfl
            clear hnwu hcf
            have hKs : Kept (· = fb) wr (wr.setCell ⟨fb, u, none⟩ (.int .i64 ((d : Int) + 1))) := Kept.setCell fb u _
            have hnb : ∀ x, (Value.slice p2 q2.length cq2).ownBlock = some x → x ≠ fb := fun x hx e => by have := (HQ2.out.lt x hx).1; omega
            have HQ3 : Hid ((wr.setCell ⟨fb, u, none⟩ (.int .i64 ((d : Int) + 1))).ownsRow w.heap.size 3 1 (.slice p2 q2.length cq2) q2.length (I64 (nz q2))) := O.own_far HQ2.out hKs hnb
            have HF3 : Hid ((wr.setCell ⟨fb, u, none⟩ (.int .i64 ((d : Int) + 1))).ownsRow bF 3 1 (.slice (some ⟨fb, 0, none⟩) n c) n (I64 (nz (f2.set u (d + 1))))) := own_put HF2.out u (d + 1)
            have HK3 : Hid (Kept (· = fb) w (wr.setCell ⟨fb, u, none⟩ (.int .i64 ((d : Int) + 1)))) := HK2.out.trans hKs fun _ _ h => h
            have HG3 : Hid (GBx (wr.setCell ⟨fb, u, none⟩ (.int .i64 ((d : Int) + 1))) w.heap.size tv (.slice (some ⟨g, 0, none⟩) n cg)) := HG2.out.far hKs (by omega)
            have HNB : Hid (∀ x, (Value.slice p2 q2.length cq2).ownBlock = some x → x ≠ fb) := hnb
            have hw2 : w.heap.size ≤ (wr.setCell ⟨fb, u, none⟩ (.int .i64 ((d : Int) + 1))).heap.size := HK3.out.size
            have HW2 : Hid (w.heap.size ≤ (wr.setCell ⟨fb, u, none⟩ (.int .i64 ((d : Int) + 1))).heap.size) := hw2
            clear hKs hnb hw2
            go_wp2_with (at_builtin; refine O.wpList_one rfl (.tmp 50) (.tmp 52) O.elI rfl rfl HQ3.out _ rfl (by simp) rfl (by omega) HW2.out ?_; intro p3 c3 w3 ho hk _; have HO : Hid (w3.ownsRow w.heap.size 3 1 (.slice p3 (q2.length + 1) c3) (q2.length + 1) (I64 (nz q2) ++ [.int .i64 (u : Int)])) := ho; have HKK : Hid (Kept (fun b => (Value.slice p2 q2.length cq2).ownBlock = some b) (wr.setCell ⟨fb, u, none⟩ (.int .i64 ((d : Int) + 1))) w3) := hk; clear ho hk)
            go_roundw
            case rel =>
              have e1 : (q2 ++ [u]).length = q2.length + 1 := by simp
              have e2 : I64 (nz (q2 ++ [u])) = I64 (nz q2) ++ [.int .i64 (u : Int)] := by simp [nz, I64]
              refine ⟨p3, c3, j + 1, q2 ++ [u], f2.set u (d + 1), by rw [e1], rfl, by omega, by rw [e1, e2]; exact HO, O.own_far HF3.out HKK.out fun x hx hc => ?_, HK3.out.trans HKK.out fun x hx hc => ?_, HG3.out.far HKK.out fun hc => ?_, ?_⟩
              · simp [Value.ownBlock] at hx; subst hx; exact HNB.out _ hc rfl
              · exact absurd (HQ3.out.lt x hc).1 (by omega)
              · exact O.own_not HQ3.out HG3.out (by decide) hc
              · have := HFI2.out.add hnw HU.out (by have := HNN.out; omega) HN.out
                rw [← HDD.out] at this
                exact this
            case measure => simp [intV]; omega
          · have hnwI : ¬ (x : Int) = 9223372036854775807 := by unfold NW at hnwu; omega
            have HS : Hid (Fli bk f0 r q2 f2 i t (j + 1)) := HFI2.out.skip HU.out (by rw [← HXX.out]; exact hnwu)
            go_wp2_with fail
            go_roundw
            case rel => exact ⟨p2, cq2, j + 1, q2, f2, rfl, rfl, by omega, HQ2, HF2, HK2, HG2, HS⟩
            case measure => simp [intV]; omega
        · have hje : j = row.length := by omega
          have HNX : Hid (Fld bk f0 r q2 f2 (i + 1)) := by
            have := HFI2.out
            rw [hje, ← HR.out] at this
            exact this.next
          have hiq2 : i < q2.length := (List.getElem?_eq_some_iff.1 HFI2.out.cur).1
          clear hje
          go_wp2_with fail
          go_roundw
          case rel => exact ⟨p2, cq2, i + 1, q2, f2, rfl, rfl, by omega, HQ2, HF2, HK2, HG2, HNX⟩
          case measure => simp [intV]; omega
    · go_wp2_with fail
      go_ret
      have hie : i = q.length := by omega
      refine ⟨p, cq, q, f, rfl, HQ.out, HF.out, HK.out, ?_⟩
      have := HD.out
      rw [hie] at this
      exact this.done
end Go.Proofs.YtkgjmejpbklabaaGreat
namespace Go.Proofs.YtkgjmejpbklabaaGreat
open Go.RowKit
open B (IIn I64)
set_option maxHeartbeats 2000000 in
set_option maxRecDepth 100000 in
theorem mul64_is (n : Nat) (hn : n ≤ 9000) (w : World) : Calls Tryz.prog 120 #[.int .u64 1, .int .u64 (n : Int)] w fun e w' => e = .returned (.tuple #[.int .u64 0, .int .u64 (n : Int)]) ∧ w = w' := by
  have h1 : bits .and .u64 (n : Int) 4294967295 = (n : Int) := by
    have := bits_and_u64_nat n 4294967295 (by omega) (by omega)
    rw [show ((4294967295 : Nat) : Int) = 4294967295 from rfl] at this
    rw [this, show (4294967295 : Nat) = 2 ^ 32 - 1 from rfl, Nat.and_two_pow_sub_one_eq_mod]
    omega
  have h2 : bits .and .u64 1 4294967295 = 1 := by decide
  have h3 : bits .and .u64 0 4294967295 = 0 := by decide
  have h4 : (n : Int) / 4294967296 = 0 := by omega
  go_enter Tryz.func120, Tryz.ntmps120
  go_wp2_with fail
  go_ret2
  exact ⟨rfl, rfl⟩
set_option maxHeartbeats 2000000 in
set_option maxRecDepth 100000 in
theorem mul_is (n : Nat) (hn : n ≤ 9000) (w : World) : Calls Tryz.prog 87 #[.int .u64 1, .int .u64 (n : Int)] w fun e w' => e = .returned (.tuple #[.int .u64 0, .int .u64 (n : Int)]) ∧ w = w' := by
  go_enter Tryz.func87, Tryz.ntmps87
  go_wp2_with (go_at_call 120; refine (mul64_is n hn _).mono ?_; rintro e w' ⟨rfl, rfl⟩)
  go_ret2
  exact ⟨rfl, rfl⟩
theorem sizeI : (Tryz.prog.info? 3).map (·.size) = some 1 := by kernel_rfl
/-- k of n numbers are laid -/
def Rp (x : Int) (n k : Nat) : List Value := List.replicate k (Value.int .i64 x) ++ List.replicate (n - k) (Value.int .i64 0)
theorem Rp.len {x : Int} {n k : Nat} (h : k ≤ n) : (Rp x n k).length = n := by simp [Rp]; omega
theorem Rp.more {x : Int} {n k m : Nat} : ((Rp x n k).take k ++ List.replicate m (Value.int .i64 x) ++ (Rp x n k).drop (k + m)) = Rp x n (k + m) := by
  unfold Rp
  rw [List.take_left' (by simp), List.drop_append, List.drop_of_length_le (by simp), List.nil_append, List.length_replicate, show k + m - k = m by omega, List.drop_replicate, show n - k - m = n - (k + m) by omega, List.replicate_append_replicate]
/-- 'make' of n elements of one cell -/
theorem make_run {t e : TypeId} {z : Value} {i : TypeInfo} (ht : Tryz.prog.underlying t = some (.slice e)) (hi : Tryz.prog.info? e = some i) (hz : i.zero = some z) (hs : i.size = 1) (hzc : z.cells = #[z]) (hb : i.bytes ≤ 100) (w : World) (n : Nat) (hn : n ≤ 10000) :
    (Instr.makeSlice t (.int .i64 (n : Int)) (.int .i64 (n : Int))).run Tryz.prog w = .ok (.slice (some ⟨w.heap.size, 0, none⟩) n n) (w.alloc (.cells (List.replicate n z).toArray e)) := by
  have hm : (i.bytes : Int) * (n : Int) ≤ 281474976710656 := by
    have : i.bytes * n ≤ 100 * 10000 := Nat.mul_le_mul hb hn
    have h2 : ((i.bytes * n : Nat) : Int) ≤ ((100 * 10000 : Nat) : Int) := by omega
    rw [Int.natCast_mul] at h2
    omega
  have := run_make (P := Tryz.prog) w t e i z ht hi hz .i64 .i64 (n : Int) (n : Int) (by omega) (Int.le_refl _) hm (by omega)
  rw [Int.toNat_natCast] at this
  rw [this, hs, hzc, Nat.mul_one]
  have e1 : madeCells #[z] n = (List.replicate n z).toArray := by rw [← toList_madeCells_one z n]
  rw [e1]
theorem make_ints (w : World) (n : Nat) (hn : n ≤ 10000) : (Instr.makeSlice 72 (.int .i64 (n : Int)) (.int .i64 (n : Int))).run Tryz.prog w = .ok (.slice (some ⟨w.heap.size, 0, none⟩) n n) (w.alloc (.cells (List.replicate n (Value.int .i64 0)).toArray 3)) := by
  obtain ⟨i0, hi, h0, h1, h2⟩ := info_parts B.info3
  exact make_run Tryz.underlying72 hi h0 h1 rfl (by omega) w n hn
theorem make_bools (w : World) (n : Nat) (hn : n ≤ 10000) : (Instr.makeSlice 116 (.int .i64 (n : Int)) (.int .i64 (n : Int))).run Tryz.prog w = .ok (.slice (some ⟨w.heap.size, 0, none⟩) n n) (w.alloc (.cells (List.replicate n (Value.bool false)).toArray 4)) := by
  obtain ⟨i0, hi, h0, h1, h2⟩ := info_parts O.infoB
  exact make_run Tryz.underlying116 hi h0 h1 rfl (by omega) w n hn
theorem make_intss (w : World) (n : Nat) (hn : n ≤ 10000) : (Instr.makeSlice 68 (.int .i64 (n : Int)) (.int .i64 (n : Int))).run Tryz.prog w = .ok (.slice (some ⟨w.heap.size, 0, none⟩) n n) (w.alloc (.cells (List.replicate n (Value.slice none 0 0)).toArray 72)) := by
  obtain ⟨i0, hi, h0, h1, h2⟩ := info_parts O.infoS
  exact make_run Tryz.underlying68 hi h0 h1 rfl (by omega) w n hn
/-- a row that was just made -/
theorem own_all (w : World) (e : TypeId) (xs : List Value) (n : Nat) (hl : xs.length = n) (hn : n ≤ 10000) {base : Nat} (hb : base ≤ w.heap.size) : (w.alloc (.cells xs.toArray e)).ownsRow base e 1 (.slice (some ⟨w.heap.size, 0, none⟩) n n) n xs :=
  ⟨by omega, .inr ⟨w.heap.size, n, xs.toArray, rfl, hb, heap_alloc_new w _, Nat.le_refl _, Nat.le_trans hn (by decide), by simp [hl], by simp [← hl]⟩⟩
set_option maxHeartbeats 2000000 in
set_option maxRecDepth 100000 in
theorem repeat_at {w : World} {b n : Nat} {x : Int} (hx : w.cell? ⟨b, 0, none⟩ = some (.int .i64 x)) (hn : n ≤ 9000) :
    Calls Tryz.prog 56 #[.slice (some ⟨b, 0, none⟩) 1 1, .int .i64 (n : Int)] w fun e w' => e = .returned (.slice (some ⟨w.heap.size, 0, none⟩) n n) ∧ RowKit.Below w.heap.size w w' ∧ w'.ownsRow w.heap.size 3 1 (.slice (some ⟨w.heap.size, 0, none⟩) n n) n (List.replicate n (Value.int .i64 x)) := by
  have hb : b < w.heap.size := World.block_lt_of_cell? w _ hx
  have hmk := make_ints w n (by omega)
  obtain ⟨W1, hW1⟩ : ∃ W, W = w.alloc (.cells (List.replicate n (Value.int .i64 0)).toArray 3) := ⟨_, rfl⟩
  rw [← hW1] at hmk
  have hB1 : RowKit.Below w.heap.size w W1 := by rw [hW1]; exact below_alloc _ _
  have hg1 : W1.heap[w.heap.size]? = some (.cells (Rp x n 0).toArray 3 (0, 0)) := by rw [hW1]; simpa [Rp] using heap_alloc_new w (.cells (List.replicate n (Value.int .i64 0)).toArray 3)
  have hcp : ∃ W2 k, (Builtin.copy_ #[72, 72] 3 #[.slice (some ⟨w.heap.size, 0, none⟩) n n, .slice (some ⟨b, 0, none⟩) 1 1]).run Tryz.prog W1 = .ok (.int .i64 ((k : Nat) : Int)) W2 ∧ k ≤ n ∧ (0 < n → 0 < k) ∧ RowKit.Below w.heap.size w W2 ∧ W2.heap[w.heap.size]? = some (.cells (Rp x n k).toArray 3 (0, 0)) := by
    by_cases h0 : n = 0
    · subst h0
      exact ⟨W1, 0, run_copy_none (P := Tryz.prog) W1 72 72 3 3 _ _ 0 0 1 1 Tryz.underlying72 sizeI rfl, Nat.le_refl _, fun h => h, hB1, hg1⟩
    · refine ⟨_, 1, run_copy_row (P := Tryz.prog) W1 72 72 3 3 w.heap.size 0 n n ⟨b, 0, none⟩ 1 1 _ 3 [.int .i64 x] Tryz.underlying72 sizeI hg1 (by show 1 = min 1 n; omega) (fun j v hj => ?_) (by simp [Rp]; omega) (by simp [Value.oneCell']), by omega, fun _ => by omega, ?_, ?_⟩
      · have : j = 0 := by
          have := (List.getElem?_eq_some_iff.1 hj).1
          simpa using this
        subst this
        simp at hj; subst hj
        rw [Go.WideShapes.add_plain, hB1.cell (p := ⟨b, 0 + 0, none⟩) hb]; exact hx
      · exact below_setRow hB1 (Nat.le_refl _) _
      · rw [setRow_heap W1 w.heap.size _ _ 3 _ hg1]
        have := Rp.more (x := x) (n := n) (k := 0) (m := 1)
        simp only [Nat.zero_add] at this
        simp only [← this]
        simp
  obtain ⟨W2, k0, hcp, hk0, hk1, hB2, hg2⟩ := hcp
  have HB2 : Hid (RowKit.Below w.heap.size w W2) := hB2
  have HG2 : Hid (W2.heap[w.heap.size]? = some (.cells (Rp x n k0).toArray 3 (0, 0))) := hg2
  clear hW1 hB1 hg1 hB2 hg2
  go_enter Tryz.func56, Tryz.ntmps56
  go_wp2_with (go_at_call 87; refine (mul_is n hn _).mono ?_; rintro e w' ⟨rfl, hw⟩; subst hw)
  clear hmk hcp hx
  go_loopw [8] (fun v W => ∃ k : Nat, v = .int .i64 (k : Int) ∧ k ≤ n ∧ (0 < n → 0 < k) ∧ Hid (RowKit.Below w.heap.size w W) ∧ Hid (W.heap[w.heap.size]? = some (.cells (Rp x n k).toArray 3 (0, 0)))) (fun v _ => n - (intV v).toNat)
  case atStart => exact ⟨k0, rfl, hk0, hk1, HB2, HG2⟩
  case round =>
    obtain ⟨k, rfl, hkn, hkp, HB, HG⟩ := hrel
    by_cases hk : k < n
    · have hk1 := hkp (by omega)
      have hcp : ∃ W3 m, (Builtin.copy_ #[72, 72] 3 #[.slice (some ⟨w.heap.size, k, none⟩) (n - k) (n - k), .slice (some ⟨w.heap.size, 0, none⟩) k n]).run Tryz.prog wr.drew = .ok (.int .i64 ((m : Nat) : Int)) W3 ∧ 0 < m ∧ k + m ≤ n ∧ RowKit.Below w.heap.size w W3 ∧ W3.heap[w.heap.size]? = some (.cells (Rp x n (k + m)).toArray 3 (0, 0)) := by
        have hg : wr.drew.heap[w.heap.size]? = some (.cells (Rp x n k).toArray 3 (0, 0)) := HG.out
        have hsrc : ∀ j v, (List.replicate (min k (n - k)) (Value.int .i64 x))[j]? = some v → wr.drew.cell? ((⟨w.heap.size, 0, none⟩ : Addr).add j) = some v := fun j v hj => by
          have hj' := (List.getElem?_eq_some_iff.1 hj).1
          rw [List.length_replicate] at hj'
          rw [List.getElem?_replicate, if_pos hj'] at hj
          cases hj
          rw [Go.WideShapes.add_plain, cell_of_row _ _ _ _ 3 (0, 0) hg]
          simp only [List.getElem?_toArray, Rp]
          rw [List.getElem?_append_left (by simp; omega), List.getElem?_replicate, if_pos (by omega)]
        have h := run_copy_row (P := Tryz.prog) wr.drew 72 72 3 3 w.heap.size k (n - k) (n - k) ⟨w.heap.size, 0, none⟩ k n _ 3 (List.replicate (min k (n - k)) (.int .i64 x)) Tryz.underlying72 sizeI hg (by rw [List.length_replicate, Nat.min_comm]; exact Nat.min_comm _ _) hsrc (by simp [Rp]; omega) (fun v hv => by rw [List.eq_of_mem_replicate hv]; rfl)
        rw [List.length_replicate] at h
        refine ⟨_, min k (n - k), h, by omega, by omega, below_setRow (HB.out.trans (below_dr _ _ 1)) (Nat.le_refl _) _, ?_⟩
        rw [setRow_heap _ w.heap.size _ _ 3 _ hg]
        simp only [Rp.more]
      obtain ⟨W3, m, hcp, hm, hkm, hB3, hg3⟩ := hcp
      have HB3 : Hid (RowKit.Below w.heap.size w W3) := hB3
      have HG3 : Hid (W3.heap[w.heap.size]? = some (.cells (Rp x n (k + m)).toArray 3 (0, 0))) := hg3
      clear hB3 hg3
      go_wp2_with fail
      go_region
      go_wp2_with fail
      go_roundw
      case rel => exact ⟨k + m, by congr 1, by omega, fun _ => by omega, HB3, HG3⟩
      case measure => simp [intV]; omega
    · go_wp2_with fail
      go_ret
      have hke : k = n := by omega
      subst hke
      refine ⟨rfl, HB.out, by simp, .inr ⟨w.heap.size, k, _, rfl, Nat.le_refl _, HG.out, Nat.le_refl _, Nat.le_trans (show k ≤ 10000 by omega) (by decide), by simp [Rp], by simp [Rp]⟩⟩
theorem I64_rep (n x : Nat) : List.replicate n (Value.int .i64 (x : Int)) = I64 (nz (List.replicate n x)) := by simp [I64, nz]
set_option maxHeartbeats 2000000 in
set_option maxRecDepth 100000 in
theorem unreached_at {w : World} {tv : Value} {p : Option Addr} {n c : Nat} (hn : n ≤ 9000) :
    Calls Tryz.prog 26 #[.agg #[tv, .slice p n c]] w fun e w' => ∃ g, e = .returned (.slice (some ⟨g, 0, none⟩) n n) ∧ RowKit.Below w.heap.size w w' ∧ w'.ownsRow w.heap.size 3 1 (.slice (some ⟨g, 0, none⟩) n n) n (I64 (nz (List.replicate n NW))) := by
  have hc : ((w.alloc (Obj.cells #[tv, .slice p n c] 70)).alloc (Obj.cells #[Value.int .i64 9223372036854775807] 3)).cell? ⟨w.heap.size + 1, 0, none⟩ = some (.int .i64 9223372036854775807) := by
    simp
  have HC : Hid (∀ w', w' = ((w.alloc (Obj.cells #[tv, .slice p n c] 70)).alloc (Obj.cells #[Value.int .i64 9223372036854775807] 3)) → w'.cell? ⟨w.heap.size + 1, 0, none⟩ = some (.int .i64 9223372036854775807)) := fun w' e => by rw [e]; exact hc
  clear hc
  go_enter Tryz.func26, Tryz.ntmps26
  go_wp2_with fail
  refine (repeat_at (HC.out _ rfl) hn).mono ?_
  rintro e w' ⟨rfl, hb, ho⟩
  have HB : Hid (RowKit.Below w.heap.size w w') := (below_then (below_alloc w _) (below_alloc _ _)).trans (hb.mono (by simp; omega))
  have HO : Hid (w'.ownsRow w.heap.size 3 1 (.slice (some ⟨w.heap.size + 2, 0, none⟩) n n) n (List.replicate n (Value.int .i64 9223372036854775807))) := by
    have h2 := B.own_mono ho (base' := w.heap.size) (by simp; omega)
    rw [show ((w.alloc (Obj.cells #[tv, .slice p n c] 70)).alloc (Obj.cells #[Value.int .i64 9223372036854775807] 3)).heap.size = w.heap.size + 2 by simp] at h2
    exact h2
  clear hb ho
  go_wp2_with fail
  go_ret
  refine ⟨w.heap.size + 2, by simp, HB.out, ?_⟩
  rw [← I64_rep]
  exact HO.out
end Go.Proofs.YtkgjmejpbklabaaGreat
namespace Go.Proofs.YtkgjmejpbklabaaGreat
open Go.RowKit
open B (IIn I64)
abbrev Bs (l : List Bool) : List Value := l.map Value.bool
theorem Bs_set (l : List Bool) (i : Nat) (x : Bool) : (Bs l).set i (.bool x) = Bs (l.set i x) := by simp [Bs, List.map_set]
/-- the lists of a walk: who was met, along how many edges it has gone, those that are settled, the way -/
structure Stg (w W : World) (n bm bg : Nat) (tv nv ov wv : Value) (o wy : List Nat) (mt : List Bool) (gn : List Nat) : Prop where
  bel : RowKit.Below w.heap.size w W
  bx : GBx W w.heap.size tv nv
  om : W.ownsRow w.heap.size 4 1 (.slice (some ⟨bm, 0, none⟩) n n) n (Bs mt)
  og : W.ownsRow w.heap.size 3 1 (.slice (some ⟨bg, 0, none⟩) n n) n (I64 (nz gn))
  oo : W.ownsRow w.heap.size 3 1 ov o.length (I64 (nz o))
  ow : W.ownsRow w.heap.size 3 1 wv wy.length (I64 (nz wy.reverse))
  d1 : ov.ownBlock ≠ some bg
  d2 : wv.ownBlock ≠ some bg
  d3 : ∀ b, ov.ownBlock = some b → wv.ownBlock ≠ some b
section
variable {w W W' : World} {n bm bg : Nat} {tv nv ov wv : Value} {o wy : List Nat} {mt : List Bool} {gn : List Nat}
theorem Stg.draws (h : Stg w W n bm bg tv nv ov wv o wy mt gn) (q : Nat) : Stg w (W.drewN q) n bm bg tv nv ov wv o wy mt gn := { h with
  bel := h.bel.trans (below_dr _ _ q)
  om := O.own_later h.om (below_dr _ _ q)
  og := O.own_later h.og (below_dr _ _ q)
  oo := O.own_later h.oo (below_dr _ _ q)
  ow := O.own_later h.ow (below_dr _ _ q) }
theorem Stg.lm (h : Stg w W n bm bg tv nv ov wv o wy mt gn) : mt.length = n := by have := h.om.1; simpa using this
theorem Stg.lg (h : Stg w W n bm bg tv nv ov wv o wy mt gn) : gn.length = n := by have := h.og.1; simpa [nz_length] using this
theorem Stg.cm (h : Stg w W n bm bg tv nv ov wv o wy mt gn) {x : Nat} (hx : x < n) : W.cell? ⟨bm, x, none⟩ = some (.bool (mt.getD x false)) :=
  O.own_cell h.om (by simp [List.getD, show x < mt.length by rw [h.lm]; exact hx])
theorem Stg.cg (h : Stg w W n bm bg tv nv ov wv o wy mt gn) {x : Nat} (hx : x < n) : W.cell? ⟨bg, x, none⟩ = some (.int .i64 ((gn.getD x 0 : Nat) : Int)) :=
  O.own_cell h.og (nzI_get (by rw [h.lg]; exact hx))
theorem Stg.setm (h : Stg w W n bm bg tv nv ov wv o wy mt gn) (x : Nat) : Stg w (W.setCell ⟨bm, x, none⟩ (.bool true)) n bm bg tv nv ov wv o wy (mt.set x true) gn := by
  have hk : Kept (· = bm) W (W.setCell ⟨bm, x, none⟩ (.bool true)) := Kept.setCell bm x _
  have hi : ∀ {v : Value} {k : Nat} {xs : List Value}, W.ownsRow w.heap.size 3 1 v k xs → ∀ b, v.ownBlock = some b → ¬ b = bm := fun h2 b hb e => O.own_ne h2 h.om (by decide) (e ▸ hb) rfl
  exact { h with
    bel := h.bel.setCell (h.om.lt bm rfl).1 _
    bx := h.bx.far hk fun e => O.own_not h.om h.bx (by decide) (by rw [e]; rfl)
    om := by have := O.own_set h.om (g := bm) rfl x (.bool true); rw [Bs_set] at this; exact this
    og := O.own_far h.og hk (hi h.og)
    oo := O.own_far h.oo hk (hi h.oo)
    ow := O.own_far h.ow hk (hi h.ow) }
theorem Stg.setg (h : Stg w W n bm bg tv nv ov wv o wy mt gn) (x k : Nat) : Stg w (W.setCell ⟨bg, x, none⟩ (.int .i64 (k : Int))) n bm bg tv nv ov wv o wy mt (gn.set x k) := by
  have hk : Kept (· = bg) W (W.setCell ⟨bg, x, none⟩ (.int .i64 (k : Int))) := Kept.setCell bg x _
  exact { h with
    bel := h.bel.setCell (h.og.lt bg rfl).1 _
    bx := h.bx.far hk fun e => O.own_not h.og h.bx (by decide) (by rw [e]; rfl)
    om := O.own_far h.om hk fun b hb e => O.own_ne h.om h.og (by decide) (e ▸ hb) rfl
    og := own_put h.og x k
    oo := O.own_far h.oo hk fun b hb e => h.d1 (e ▸ hb)
    ow := O.own_far h.ow hk fun b hb e => h.d2 (e ▸ hb) }
/-- a new way -/
theorem Stg.begin (h : Stg w W n bm bg tv nv ov wv o [] mt gn) (r : Nat) : Stg w (W.alloc (Obj.cells #[Value.int .i64 (r : Int)] 3)) n bm bg tv nv ov (.slice (some ⟨W.heap.size, 0, none⟩) 1 1) o [r] mt gn := by
  have hb := below_alloc W (Obj.cells #[Value.int .i64 (r : Int)] 3)
  exact { h with
    bel := h.bel.trans (hb.mono h.bel.size)
    bx := h.bx.later hb
    om := O.own_later h.om hb
    og := O.own_later h.og hb
    oo := O.own_later h.oo hb
    ow := O.own_one (base := w.heap.size) (size := 1) (e := 3) (cs := [Value.int .i64 (r : Int)]) W rfl h.bel.size
    d2 := fun e => by have := (h.og.lt bg rfl).2; simp [Value.ownBlock] at e; omega
    d3 := fun b hb e => by have := (h.oo.lt b hb).2; simp [Value.ownBlock] at e; omega }
/-- one more is settled -/
theorem Stg.addo (h : Stg w W n bm bg tv nv ov wv o wy mt gn) {p : Option Addr} {c x : Nat} (ho : W'.ownsRow w.heap.size 3 1 (.slice p (o.length + 1) c) (o.length + 1) (I64 (nz o) ++ [.int .i64 (x : Int)]))
    (hk : Kept (fun b => ov.ownBlock = some b) W W') (hv : ∀ g, (Value.slice p (o.length + 1) c).ownBlock = some g → ov.ownBlock = some g ∨ W.heap.size ≤ g) :
    Stg w W' n bm bg tv nv (.slice p (o ++ [x]).length c) wv (o ++ [x]) wy mt gn := by
  have el : (o ++ [x]).length = o.length + 1 := by simp
  have ei : I64 (nz (o ++ [x])) = I64 (nz o) ++ [.int .i64 (x : Int)] := by simp [nz, I64]
  have hnb : ∀ b, ov.ownBlock = some b → w.heap.size ≤ b := fun b hb => (h.oo.lt b hb).1
  exact { h with
    bel := Kept.into hk h.bel (fun b hb hc => by have := hnb b hc; omega) (Nat.le_refl _)
    bx := h.bx.far hk fun hc => O.own_not h.oo h.bx (by decide) hc
    om := O.own_far h.om hk fun b hb hc => O.own_ne h.oo h.om (by decide) hc hb
    og := O.own_far h.og hk fun b hb hc => h.d1 (by simp [Value.ownBlock] at hb; rw [hb]; exact hc)
    oo := by rw [el, ei]; exact ho
    ow := O.own_far h.ow hk fun b hb hc => h.d3 b hc hb
    d1 := fun e => by
      rw [el] at e
      rcases hv bg e with h1 | h1
      · exact h.d1 h1
      · have := (h.og.lt bg rfl).2; omega
    d3 := fun b hb e => by
      rw [el] at hb
      rcases hv b hb with h1 | h1
      · exact h.d3 b h1 e
      · have := (h.ow.lt b e).2; omega }
/-- the way goes on -/
theorem Stg.addw (h : Stg w W n bm bg tv nv ov wv o wy mt gn) {p : Option Addr} {c x : Nat} (ho : W'.ownsRow w.heap.size 3 1 (.slice p (wy.length + 1) c) (wy.length + 1) (I64 (nz wy.reverse) ++ [.int .i64 (x : Int)]))
    (hk : Kept (fun b => wv.ownBlock = some b) W W') (hv : ∀ g, (Value.slice p (wy.length + 1) c).ownBlock = some g → wv.ownBlock = some g ∨ W.heap.size ≤ g) :
    Stg w W' n bm bg tv nv ov (.slice p (x :: wy).length c) o (x :: wy) mt gn := by
  have el : (x :: wy).length = wy.length + 1 := by simp
  have ei : I64 (nz (x :: wy).reverse) = I64 (nz wy.reverse) ++ [.int .i64 (x : Int)] := by simp [nz, I64]
  have hnb : ∀ b, wv.ownBlock = some b → w.heap.size ≤ b := fun b hb => (h.ow.lt b hb).1
  exact { h with
    bel := Kept.into hk h.bel (fun b hb hc => by have := hnb b hc; omega) (Nat.le_refl _)
    bx := h.bx.far hk fun hc => O.own_not h.ow h.bx (by decide) hc
    om := O.own_far h.om hk fun b hb hc => O.own_ne h.ow h.om (by decide) hc hb
    og := O.own_far h.og hk fun b hb hc => h.d2 (by simp [Value.ownBlock] at hb; rw [hb]; exact hc)
    ow := by rw [el, ei]; exact ho
    oo := O.own_far h.oo hk fun b hb hc => h.d3 b hb hc
    d2 := fun e => by
      rw [el] at e
      rcases hv bg e with h1 | h1
      · exact h.d2 h1
      · have := (h.og.lt bg rfl).2; omega
    d3 := fun b hb e => by
      rw [el] at e
      rcases hv b e with h1 | h1
      · exact h.d3 b hb h1
      · have := (h.oo.lt b hb).2; omega }
/-- the way goes back -/
theorem Stg.back {p : Option Addr} {c t : Nat} (h : Stg w W n bm bg tv nv ov (.slice p (t :: wy).length c) o (t :: wy) mt gn) : Stg w W n bm bg tv nv ov (.slice p wy.length c) o wy mt gn := by
  have eb : (Value.slice p wy.length c).ownBlock = (Value.slice p (t :: wy).length c).ownBlock := by cases p <;> rfl
  refine { h with ow := ⟨by simp [nz_length], ?_⟩, d2 := by rw [eb]; exact h.d2, d3 := fun b hb => by rw [eb]; exact h.d3 b hb }
  rcases h.ow.2 with ⟨_, h0⟩ | ⟨g, cap, cur, e, hb, hg, hc, hm, hs, ht⟩
  · simp at h0
  · simp only [Value.slice.injEq] at e
    obtain ⟨rfl, _, rfl⟩ := e
    refine .inr ⟨g, c, cur, rfl, hb, hg, by simp at hc; omega, hm, hs, ?_⟩
    have := congrArg (List.take wy.length) ht
    rw [List.take_take] at this
    simp [nz, I64] at this ⊢
    exact this
end
end Go.Proofs.YtkgjmejpbklabaaGreat
namespace Go.Proofs.YtkgjmejpbklabaaGreat
open Go.RowKit
open B (IIn I64)
set_option maxHeartbeats 2000000 in
set_option maxRecDepth 100000 in
theorem settled_at {S : Nat → Prop} {w : World} {tp : Option Addr} {tn tc : Nat} {nv : Value} {nx : List (List Nat)} {n : Nat} (hn : nx.length = n) (hz : n ≤ 9000) (hNX : NIn S w nv nx) (hwf : ∀ i v, v ∈ nx.getD i [] → v < n) (hrl : ∀ i, (nx.getD i []).length ≤ 9000) :
    Calls Tryz.prog 23 #[.agg #[.slice tp tn tc, nv]] w fun e w' => ∃ p c o, e = .returned (.slice p (List.length o) c) ∧ w'.ownsRow w.heap.size 3 1 (.slice p o.length c) o.length (I64 (nz o)) ∧ RowKit.Below w.heap.size w w' ∧ Stl (Ed nx) n o := by
  obtain ⟨g, cg, enx, hrow⟩ := hNX.row
  rw [hn] at enx
  subst enx
  have hmk1 := fun w => make_bools w n (by omega)
  have hmk2 := fun w => make_ints w n (by omega)
  go_enter Tryz.func23, Tryz.ntmps23
  go_wp2_with fail
  have HNN : Hid (nx.length = n) := hn
  have HROW : Hid (∀ i, i < n → ∃ p k, ∀ W : World, RowKit.Below w.heap.size w W → W.cell? ⟨g, i, none⟩ = some (.slice p (nx.getD i []).length k) ∧ IIn W p (nx.getD i []).length (nz (nx.getD i []))) := fun i hi => by
    obtain ⟨p, k, h⟩ := hrow i (by omega)
    exact ⟨p, k, fun W hW => h W fun k _ hlt => hW.block k hlt⟩
  have HS0 : Hid (Stg w (((w.alloc (Obj.cells #[.slice tp tn tc, .slice (some ⟨g, 0, none⟩) n cg] 70)).alloc (Obj.cells (Array.replicate n (Value.bool false)) 4)).alloc (Obj.cells (Array.replicate n (Value.int .i64 0)) 3)) n (w.heap.size + 1) (w.heap.size + 1 + 1) (.slice tp tn tc) (.slice (some ⟨g, 0, none⟩) n cg) nils nils [] [] (List.replicate n false) (List.replicate n 0)) := by
    have h1 := GBx.new w (.slice tp tn tc) (.slice (some ⟨g, 0, none⟩) n cg)
    have hs1 : (w.alloc (Obj.cells #[.slice tp tn tc, .slice (some ⟨g, 0, none⟩) n cg] 70)).heap.size = w.heap.size + 1 := by simp
    have h2 := own_all (w.alloc (Obj.cells #[.slice tp tn tc, .slice (some ⟨g, 0, none⟩) n cg] 70)) 4 (List.replicate n (Value.bool false)) n (by simp) (by omega) (base := w.heap.size) (by rw [hs1]; omega)
    rw [hs1] at h2
    have hs2 : ((w.alloc (Obj.cells #[.slice tp tn tc, .slice (some ⟨g, 0, none⟩) n cg] 70)).alloc (Obj.cells (List.replicate n (Value.bool false)).toArray 4)).heap.size = w.heap.size + 1 + 1 := by simp
    have h3 := own_all ((w.alloc (Obj.cells #[.slice tp tn tc, .slice (some ⟨g, 0, none⟩) n cg] 70)).alloc (Obj.cells (List.replicate n (Value.bool false)).toArray 4)) 3 (List.replicate n (Value.int .i64 0)) n (by simp) (by omega) (base := w.heap.size) (by rw [hs2]; omega)
    rw [hs2] at h3
    rw [show Array.replicate n (Value.bool false) = (List.replicate n (Value.bool false)).toArray by simp, show Array.replicate n (Value.int .i64 0) = (List.replicate n (Value.int .i64 0)).toArray by simp]
    exact {
      bel := below_then (below_then (below_alloc w _) (below_alloc _ _)) (below_alloc _ _)
      bx := (h1.later (below_alloc _ _)).later (below_alloc _ _)
      om := by
        have := O.own_later h2 (below_alloc _ (Obj.cells (List.replicate n (Value.int .i64 0)).toArray 3))
        rw [show Bs (List.replicate n false) = List.replicate n (Value.bool false) by simp [Bs]]
        exact this
      og := by rw [← I64_rep]; exact h3
      oo := World.ownsRow_nil _ _ _ _
      ow := World.ownsRow_nil _ _ _ _
      d1 := fun e => by cases e
      d2 := fun e => by cases e
      d3 := fun b hb => by cases hb }
  have HD0 : Hid (Dfs nx [] [] (List.replicate n false) (List.replicate n 0)) := by have := Dfs.start nx; rw [hn] at this; exact this
  clear hn hrow hNX hmk1 hmk2
  generalize ((w.alloc (Obj.cells #[.slice tp tn tc, .slice (some ⟨g, 0, none⟩) n cg] 70)).alloc (Obj.cells (Array.replicate n (Value.bool false)) 4)).alloc (Obj.cells (Array.replicate n (Value.int .i64 0)) 3) = W0 at HS0 ⊢
  generalize hbm : w.heap.size + 1 = bm at HS0 ⊢
  generalize hbg : bm + 1 = bg at HS0 ⊢
  clear hbm hbg
  go_loopw [3, 21] (fun v v2 W => ∃ (p : Option Addr) (c i : Nat) (o : List Nat) (mt : List Bool) (gn : List Nat), v = .slice p o.length c ∧ v2 = .int .i64 (i : Int) ∧ i ≤ n ∧ Hid (Stg w W n bm bg (.slice tp tn tc) (.slice (some ⟨g, 0, none⟩) n cg) (.slice p o.length c) nils o [] mt gn) ∧ Hid (Dfs nx o [] mt gn) ∧ Hid (∀ x, x < i → mt.getD x false = true)) (fun v v2 _ => n - (intV v2).toNat)
  case atStart => exact ⟨none, 0, 0, [], _, _, rfl, rfl, by omega, HS0, HD0, fun x hx => by omega⟩
  case round =>
    obtain ⟨p, c, i, o, mt, gn, rfl, rfl, hi, HS, HD, HM⟩ := hrel
    by_cases hin : i < n
    · have hcm := HS.out.cm hin
      cases hmi : mt.getD i false with
      | true =>
        rw [hmi] at hcm
        have HM2 : Hid (∀ x, x < i + 1 → mt.getD x false = true) := fun x hx => by
          by_cases e : x = i
          · rw [e]; exact hmi
          · exact HM.out x (by omega)
        clear hmi
        go_wp2_with fail
        go_roundw
        case rel => exact ⟨p, c, i + 1, o, mt, gn, rfl, rfl, by omega, HS, HD, HM2⟩
        case measure => simp [intV]; omega
      | false =>
        rw [hmi] at hcm
        have hfm : wr.frozen? ⟨bm, i, none⟩ = false := O.own_free HS.out.om i
        have HS1 : Hid (Stg w ((wr.setCell ⟨bm, i, none⟩ (.bool true)).alloc (Obj.cells #[Value.int .i64 (i : Int)] 3)) n bm bg (.slice tp tn tc) (.slice (some ⟨g, 0, none⟩) n cg) (.slice p o.length c) (.slice (some ⟨wr.heap.size, 0, none⟩) 1 1) o [i] (mt.set i true) gn) := by
          have := (HS.out.setm i).begin i
          rw [show (wr.setCell ⟨bm, i, none⟩ (.bool true)).heap.size = wr.heap.size by simp] at this
          exact this
        have HD1 : Hid (Dfs nx o [i] (mt.set i true) gn) := HD.out.root hmi (by have := HNN.out; omega)
        have HM1 : Hid (∀ x, x < i + 1 → (mt.set i true).getD x false = true) := fun x hx => by
          rw [getD_set]
          by_cases e : i = x ∧ i < mt.length
          · rw [if_pos e]
          · rw [if_neg e]
            have := HS.out.lm
            exact HM.out x (by omega)
        clear hmi
        go_wp2_with fail
        clear hcm hfm
        generalize ((wr.setCell ⟨bm, i, none⟩ (.bool true)).alloc (Obj.cells #[Value.int .i64 (i : Int)] 3)) = W1 at HS1 ⊢
        go_loopg [3, 7] (lft nx o gn) (fun k v v7 W => ∃ (p : Option Addr) (c : Nat) (pw : Option Addr) (cw : Nat) (o wy : List Nat) (mt : List Bool) (gn : List Nat), v = .slice p o.length c ∧ v7 = .slice pw wy.length cw ∧ Hid (k = lft nx o gn) ∧ Hid (Stg w W n bm bg (.slice tp tn tc) (.slice (some ⟨g, 0, none⟩) n cg) (.slice p o.length c) (.slice pw wy.length cw) o wy mt gn) ∧ Hid (Dfs nx o wy mt gn) ∧ Hid (∀ x, x < i + 1 → mt.getD x false = true))
        case atStart => exact ⟨p, c, _, _, o, [i], _, gn, rfl, rfl, rfl, HS1, HD1, HM1⟩
        case round =>
          obtain ⟨p2, c2, pw, cw, o2, wy, mt2, gn2, rfl, rfl, HK, HS2, HD2, HM2⟩ := hrel
          have hro : o2.length + wy.length ≤ n := by have := HD2.out.room; have := HNN.out; omega
          cases wy with
          | nil =>
            have HS3 : Hid (Stg w wr n bm bg (.slice tp tn tc) (.slice (some ⟨g, 0, none⟩) n cg) (.slice p2 o2.length c2) nils o2 [] mt2 gn2) := { HS2.out with
              ow := World.ownsRow_nil _ _ _ _
              d2 := fun e => by cases e
              d3 := fun b _ e => by cases e }
            go_wp2_with fail
            go_roundw
            case rel => exact ⟨p2, c2, i + 1, o2, mt2, gn2, rfl, rfl, by omega, HS3, HD2, HM2⟩
            case measure => simp [intV]; omega
          | cons t wy =>
            have htn : t < n := by have := HD2.out.lt (x := t) (.inr (by simp)); have := HNN.out; omega
            obtain ⟨gw, cw', eq, hcw, hcq, _⟩ := O.own_some HS2.out.ow (by simp)
            simp only [Value.slice.injEq] at eq
            obtain ⟨rfl, _, rfl⟩ := eq
            obtain ⟨m, hm⟩ : ∃ m, m = wy.length := ⟨_, rfl⟩
            have hct : wr.cell? ⟨gw, m, none⟩ = some (.int .i64 (t : Int)) := hcq m _ (by rw [nzI_get (by simp; omega)]; simp [List.getD, hm])
            have hlen : (t :: wy).length = m + 1 := by simp [hm]
            have HLEN : Hid ((t :: wy).length = m + 1 ∧ wy.length = m) := ⟨hlen, hm.symm⟩
            rw [hlen] at hcw
            rw [hlen]
            have hmb : m + 1 ≤ n := by simp at hro; omega
            obtain ⟨pr, kr, hrow⟩ := HROW.out t htn
            have hcr := (hrow wr HS2.out.bel).1
            have hIr := (hrow wr HS2.out.bel).2
            have hcg := HS2.out.cg htn
            have hc1 := HS2.out.bx.c1
            obtain ⟨row, hR⟩ : ∃ row, row = nx.getD t [] := ⟨_, rfl⟩
            obtain ⟨gt, hgt⟩ : ∃ gt, gt = gn2.getD t 0 := ⟨_, rfl⟩
            have HR : Hid (nx.getD t [] = row ∧ gn2.getD t 0 = gt) := ⟨hR.symm, hgt.symm⟩
            have hgl : gt ≤ row.length := by rw [hR, hgt]; exact HD2.out.le t
            have hrl2 : row.length ≤ 9000 := by rw [hR]; exact hrl t
            rw [← hR] at hcr hIr
            rw [← hgt] at hcg
            clear hcq hrow hm hlen hR hgt
            have hFG : wr.frozen? ⟨bg, t, none⟩ = false := O.own_free HS2.out.og t
            by_cases hge : gt = row.length
            · subst hge
              have HPOP : Hid (Dfs nx (o2 ++ [t]) wy mt2 gn2 ∧ lft nx (o2 ++ [t]) gn2 < gk) := ⟨HD2.out.pop (by rw [HR.out.2, HR.out.1]), by rw [HK.out]; exact HD2.out.lft_pop⟩
              go_wp2_with fail
              go_quiet (fail)
              have HS3 : Hid (Stg w (wr.drewN nq) n bm bg (.slice tp tn tc) (.slice (some ⟨g, 0, none⟩) n cg) (.slice p2 o2.length c2) (.slice (some ⟨gw, 0, none⟩) (t :: wy).length cw) o2 (t :: wy) mt2 gn2) := HS2.out.draws nq
              generalize wr.drewN nq = W3 at HS3 ⊢
              clear hct hcr hcg hc1 hIr hFG
              have hsz : w.heap.size ≤ W3.heap.size := HS3.out.bel.size
              go_wp2_with (at_builtin; refine O.wpList_one (w := W3) rfl (.tmp 53) (.tmp 55) O.elI rfl rfl HS3.out.oo _ rfl (by simp) rfl (by omega) hsz ?_; intro p3 c3 w3 ho hk hv; have HS4 := HS3.out.addo ho hk hv; have HS4 : Hid (Stg _ _ _ _ _ _ _ _ _ _ _ _ _) := HS4; clear ho hk hv)
              have HS5 : Hid (Stg w w3 n bm bg (.slice tp tn tc) (.slice (some ⟨g, 0, none⟩) n cg) (.slice p3 (o2 ++ [t]).length c3) (.slice (some ⟨gw, 0, none⟩) wy.length cw) (o2 ++ [t]) wy mt2 gn2) := HS4.out.back
              go_roundg (lft nx (o2 ++ [t]) gn2)
              case measure => exact HPOP.out.2
              case rel =>
                refine ⟨p3, c3, some ⟨gw, 0, none⟩, cw, o2 ++ [t], wy, mt2, gn2, by simp, by rw [HLEN.out.2], rfl, HS5, HPOP.out.1, HM2⟩
            · have hgr : gt < row.length := by omega
              obtain ⟨u, hu⟩ : ∃ u, row[gt]? = some u := ⟨row[gt], by rw [List.getElem?_eq_getElem hgr]⟩
              have hun : u < n := hwf t u (by rw [HR.out.1]; exact List.mem_of_getElem? hu)
              have HU : Hid ((nx.getD t [])[gn2.getD t 0]? = some u) := by show _ = _; rw [HR.out.1, HR.out.2]; exact hu
              obtain ⟨rb, ro, rfl, hcc⟩ := hIr.cells (by omega)
              have hcu : wr.cell? ⟨rb, ro + gt, none⟩ = some (.int .i64 (u : Int)) := by rw [hcc gt hgr, nz_getD]; simp [List.getD, hu]
              have hgI : ¬ (gt : Int) = (row.length : Int) := by omega
              have hgB : ((gt : Int) == (row.length : Int)) = false := by simp; omega
              have HLT : Hid (lft nx o2 (gn2.set t (gt + 1)) < gk) := by
                have := HD2.out.lft_go (by rw [HR.out.1, HR.out.2]; exact hgr)
                rw [HR.out.2, ← HK.out] at this
                exact this
              clear hcc hIr hu
              go_wp2_with fail
              go_quiet (fail)
              go_wp2_with fail
              have HS3 : Hid (Stg w (wr.drewN nq) n bm bg (.slice tp tn tc) (.slice (some ⟨g, 0, none⟩) n cg) (.slice p2 o2.length c2) (.slice (some ⟨gw, 0, none⟩) (t :: wy).length cw) o2 (t :: wy) mt2 gn2) := HS2.out.draws nq
              have hcr3 : (wr.drewN nq).cell? ⟨g, t, none⟩ = some (.slice (some ⟨rb, ro, none⟩) row.length kr) := hcr
              have hcu3 : (wr.drewN nq).cell? ⟨rb, ro + gt, none⟩ = some (.int .i64 (u : Int)) := hcu
              have hcg3 : (wr.drewN nq).cell? ⟨bg, t, none⟩ = some (.int .i64 (gt : Int)) := hcg
              have hc13 : (wr.drewN nq).cell? ⟨w.heap.size, 1, none⟩ = some (.slice (some ⟨g, 0, none⟩) n cg) := hc1
              clear hcr hcu hcg hc1 hct hFG HS2
              generalize wr.drewN nq = W3 at HS3 hcr3 hcu3 hcg3 hc13 ⊢
              clear nq
              go_quiet (fail)
              have HS4 : Hid (Stg w (W3.drewN nq) n bm bg (.slice tp tn tc) (.slice (some ⟨g, 0, none⟩) n cg) (.slice p2 o2.length c2) (.slice (some ⟨gw, 0, none⟩) (t :: wy).length cw) o2 (t :: wy) mt2 gn2) := HS3.out.draws nq
              have hcg4 : (W3.drewN nq).cell? ⟨bg, t, none⟩ = some (.int .i64 (gt : Int)) := hcg3
              clear hcr3 hcu3 hcg3 hc13 HS3
              generalize W3.drewN nq = W4 at HS4 hcg4 ⊢
              have hfg4 : W4.frozen? ⟨bg, t, none⟩ = false := O.own_free HS4.out.og t
              have HS5 : Hid (Stg w (W4.setCell ⟨bg, t, none⟩ (.int .i64 ((gt : Int) + 1))) n bm bg (.slice tp tn tc) (.slice (some ⟨g, 0, none⟩) n cg) (.slice p2 o2.length c2) (.slice (some ⟨gw, 0, none⟩) (t :: wy).length cw) o2 (t :: wy) mt2 (gn2.set t (gt + 1))) := HS4.out.setg t (gt + 1)
              have hcm5 := HS5.out.cm hun
              have hfm5 : W4.frozen? ⟨bm, u, none⟩ = false := O.own_free HS4.out.om u
              cases hmu : mt2.getD u false with
              | true =>
                rw [hmu] at hcm5
                have HD3 : Hid (Dfs nx o2 (t :: wy) mt2 (gn2.set t (gt + 1))) := by
                  have := HD2.out.pass HU.out hmu
                  rw [HR.out.2] at this
                  exact this
                clear hmu
                go_wp2_with fail
                go_roundg (lft nx o2 (gn2.set t (gt + 1)))
                case measure => exact HLT.out
                case rel => exact ⟨p2, c2, some ⟨gw, 0, none⟩, cw, o2, t :: wy, mt2, gn2.set t (gt + 1), rfl, by rw [HLEN.out.1], rfl, HS5, HD3, HM2⟩
              | false =>
                rw [hmu] at hcm5
                have HD3 : Hid (Dfs nx o2 (u :: t :: wy) (mt2.set u true) (gn2.set t (gt + 1))) := by
                  have := HD2.out.push HU.out hmu (by have := HNN.out; omega)
                  rw [HR.out.2] at this
                  exact this
                have HM3 : Hid (∀ x, x < i + 1 → (mt2.set u true).getD x false = true) := fun x hx => by
                  rw [getD_set]
                  by_cases e : u = x ∧ u < mt2.length
                  · rw [if_pos e]
                  · rw [if_neg e]; exact HM2.out x hx
                have HS6 : Hid (Stg w ((W4.setCell ⟨bg, t, none⟩ (.int .i64 ((gt : Int) + 1))).setCell ⟨bm, u, none⟩ (.bool true)) n bm bg (.slice tp tn tc) (.slice (some ⟨g, 0, none⟩) n cg) (.slice p2 o2.length c2) (.slice (some ⟨gw, 0, none⟩) (m + 1) cw) o2 (t :: wy) (mt2.set u true) (gn2.set t (gt + 1))) := by
                  have := HS5.out.setm u
                  rw [HLEN.out.1] at this
                  exact this
                have HOW : Hid (((W4.setCell ⟨bg, t, none⟩ (.int .i64 ((gt : Int) + 1))).setCell ⟨bm, u, none⟩ (.bool true)).ownsRow w.heap.size 3 1 (.slice (some ⟨gw, 0, none⟩) (m + 1) cw) (m + 1) (I64 (nz (t :: wy).reverse))) := by
                  have := HS6.out.ow
                  rw [HLEN.out.1] at this
                  exact this
                have HSZ : Hid (w.heap.size ≤ ((W4.setCell ⟨bg, t, none⟩ (.int .i64 ((gt : Int) + 1))).setCell ⟨bm, u, none⟩ (.bool true)).heap.size) := HS6.out.bel.size
                clear hmu
                go_wp2_with (at_builtin; refine O.wpList_one (w := ((W4.setCell ⟨bg, t, none⟩ (.int .i64 ((gt : Int) + 1))).setCell ⟨bm, u, none⟩ (.bool true))) rfl (.tmp 87) (.tmp 89) O.elI rfl rfl HOW.out _ rfl (by simp) rfl (by omega) HSZ.out ?_; intro p3 c3 w3 ho hk hv; have HS7 := HS6.out.addw (p := p3) (c := c3) (x := u) (W' := w3) (by rw [HLEN.out.1]; exact ho) hk (by rw [HLEN.out.1]; exact hv); have HS7 : Hid (Stg _ _ _ _ _ _ _ _ _ _ _ _ _) := HS7; clear ho hk hv)
                go_roundg (lft nx o2 (gn2.set t (gt + 1)))
                case measure => exact HLT.out
                case rel => exact ⟨p2, c2, p3, c3, o2, u :: t :: wy, mt2.set u true, gn2.set t (gt + 1), rfl, by rw [List.length_cons, HLEN.out.1], rfl, HS7, HD3, HM3⟩
    · go_wp2_with fail
      go_ret
      have hie : i = n := by omega
      refine ⟨p, c, o, rfl, HS.out.oo, HS.out.bel, ?_⟩
      have := HD.out.done fun x hx => HM.out x (by have := HNN.out; omega)
      rw [HNN.out] at this
      exact this
end Go.Proofs.YtkgjmejpbklabaaGreat
