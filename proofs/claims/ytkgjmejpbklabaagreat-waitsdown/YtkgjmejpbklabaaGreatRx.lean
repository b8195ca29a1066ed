/-
  Layer 15: where every edge leads down.
-/
import Derived.Test.YtkgjmejpbklabaaGreatRv
import Derived.Test.YtkgjmejpbklabaaGreatN22
namespace Go.Proofs.YtkgjmejpbklabaaGreat
open Go.RowKit
open M (Ad wt it)
open K (Lk tix qS)
theorem down_place {es : List Eg} {ts : List Int} {nx : List (List Nat)} (hG : GIs (egs es) ts nx) (hd : ∀ e ∈ es, e.t < e.f) {u v : Nat} (h : Ed nx u v) : v < u := by
  obtain ⟨e, he, h1, h2⟩ := (hG.ed u v).1 h
  obtain ⟨x, hx, rfl⟩ := List.mem_map.1 he
  have h3 := hd x hx
  have h1' : ts[u]? = some x.f := h1
  have h2' : ts[v]? = some x.t := h2
  apply Classical.byContradiction
  intro hc
  obtain ⟨hu, e1⟩ := List.getElem?_eq_some_iff.1 h1'
  obtain ⟨hv, e2⟩ := List.getElem?_eq_some_iff.1 h2'
  by_cases huv : u = v
  · subst huv; omega
  · have := List.pairwise_iff_getElem.1 hG.up u v hu hv (by omega)
    omega
theorem down_way {E : Nat → Nat → Prop} (hE : ∀ u v, E u v → v < u) : ∀ (k x y : Nat), Pt E k x y → y + k ≤ x
  | 0, x, y, h => by
    have : x = y := h
    omega
  | k + 1, x, y, h => by
    obtain ⟨z, hz, hw⟩ := h
    have := hE x z hz
    have := down_way hE k z y hw
    omega
theorem down_no {E : Nat → Nat → Prop} (hE : ∀ u v, E u v → v < u) (x : Nat) : ¬ OnR E x := by
  rintro ⟨k, hk⟩
  have := down_way hE (k + 1) x x hk
  omega
theorem ring_down {w : World} {p : Option Addr} {n c : Nat} {es : List Eg} (hE : EIn w p n es) (hz : n ≤ 4500) (hd : ∀ e ∈ es, e.t < e.f) :
    Calls Tryz.prog 10 #[.slice p n c] w fun e w' => ∃ (q : Option Addr) (cq : Nat), e = .returned (.slice q 0 cq) ∧ RowKit.Below w.heap.size w w' := by
  refine (ring_at hE hz).mono ?_
  rintro e w' ⟨q, cq, l, ts, nx, rfl, -, hb, hG, hR⟩
  have : l = [] := hR.nil_iff.2 (down_no fun u v h => down_place hG hd h)
  subst this
  exact ⟨q, cq, rfl, hb⟩
/-- heights of edges that all lead down -/
def HM (W : World) (mb n : Nat) (es : List Eg) : Prop := ∃ M : Int → Option Value, VMp zero64 W mb n n M ∧ ∀ e ∈ es, UW e.f ∧ UW e.t ∧ ∃ x y : Nat, M e.f = some (.int .i64 (x : Int)) ∧ M e.t = some (.int .i64 (y : Int)) ∧ y < x
theorem HM.later {W W' : World} {mb n : Nat} {es : List Eg} (h : HM W mb n es) (hb : RowKit.Below W.heap.size W W') : HM W' mb n es := by
  obtain ⟨M, h1, h2⟩ := h
  exact ⟨M, h1.later hb, h2⟩
theorem HM.get {W : World} {mb n : Nat} {es : List Eg} (h : HM W mb n es) {e : Eg} (he : e ∈ es) : ∃ x y : Nat, (Instr.lookup 34 (.map (some mb)) (.int .u64 e.f) false).run Tryz.prog W = .ok (.int .i64 (x : Int)) W ∧ (Instr.lookup 34 (.map (some mb)) (.int .u64 e.t) false).run Tryz.prog W = .ok (.int .i64 (y : Int)) W ∧ y < x := by
  obtain ⟨M, h1, h2⟩ := h
  obtain ⟨u1, u2, x, y, e1, e2, hxy⟩ := h2 e he
  have g1 := h1.run_get Tryz.underlying34 (zeroI _) u1
  have g2 := h1.run_get Tryz.underlying34 (zeroI _) u2
  rw [e1] at g1
  rw [e2] at g2
  exact ⟨x, y, g1, g2, hxy⟩
theorem HM.len {W : World} {mb n : Nat} {es : List Eg} (h : HM W mb n es) (ty : TypeId) : (Builtin.len_ #[34] ty #[.map (some mb)]).run Tryz.prog W = .ok (.int .i64 (n : Int)) W := by
  obtain ⟨M, h1, _⟩ := h
  exact h1.run_len Tryz.underlying34 ty
theorem heights_down {w : World} {p : Option Addr} {n c : Nat} {es : List Eg} (hE : EIn w p n es) (hz : n ≤ 4500) (hw : ∀ e ∈ es, UW e.f ∧ UW e.t) (hd : ∀ e ∈ es, e.t < e.f) :
    Calls Tryz.prog 9 #[.slice p n c] w fun e w' => ∃ mb N, e = .returned (.tuple #[.map (some mb), .int .i64 0]) ∧ HM w' mb N es ∧ (es = [] → N = 0) ∧ RowKit.Below w.heap.size w w' := by
  refine (heights_at hE hz hw).mono ?_
  rintro e w' ⟨hb, ts, nx, hG, hk9, hO⟩
  have hno := down_no fun u v h => down_place hG hd h
  rcases hO with ⟨_, x, hx⟩ | ⟨_, mb, o, h, rfl, hmb, hStl, hHok, hmp⟩
  · exact absurd hx (hno x)
  · refine ⟨mb, o.length, rfl, ⟨_, hmp, fun e he => ?_⟩, fun e0 => ?_, hb⟩
    · have hlt : ∀ x ∈ o, x < ts.length := fun x hx => (hStl.all x).1 hx
      have hp : e.pr ∈ egs es := List.mem_map.2 ⟨e, he, rfl⟩
      obtain ⟨u, hu, e1⟩ := List.getElem_of_mem ((hG.mem e.f).2 ⟨_, hp, .inl rfl⟩)
      obtain ⟨v, hv, e2⟩ := List.getElem_of_mem ((hG.mem e.t).2 ⟨_, hp, .inr rfl⟩)
      have hed : Ed nx u v := (hG.ed u v).2 ⟨_, hp, by rw [List.getElem?_eq_getElem hu, e1]; rfl, by rw [List.getElem?_eq_getElem hv, e2]; rfl⟩
      have hdn := hHok.dn u v ((hStl.all u).2 hu) hed
      have g1 := hmp_in (h := h) hG.up hlt ((hStl.all u).2 hu)
      have g2 := hmp_in (h := h) hG.up hlt ((hStl.all v).2 hv)
      rw [show ts.getD u 0 = e.f by rw [List.getD, List.getElem?_eq_getElem hu, e1]; rfl] at g1
      rw [show ts.getD v 0 = e.t by rw [List.getD, List.getElem?_eq_getElem hv, e2]; rfl] at g2
      exact ⟨(hw e he).1, (hw e he).2, h u, h v, g1, g2, by omega⟩
    · subst e0
      have ht : ts = [] := by
        cases ts with
        | nil => rfl
        | cons x r =>
          obtain ⟨e, he, _⟩ := (hG.mem x).1 (by simp)
          simp [egs] at he
      subst ht
      cases o with
      | nil => rfl
      | cons x r =>
        have := (hStl.all x).1 (by simp)
        simp at this
theorem ein_nil (w : World) : EIn w none 0 [] := ⟨rfl, fun h => absurd h (Nat.lt_irrefl 0)⟩
theorem uin_nil (w : World) : UIn w none 0 [] := ⟨rfl, fun h => absurd h (Nat.lt_irrefl 0)⟩
set_option maxHeartbeats 2000000 in
set_option maxRecDepth 100000 in
theorem of_nil1 (w : World) (x : Option Addr) : Calls Tryz.prog 8 #[nilq, .pointer x] w fun e w' => e = .returned (.tuple #[.slice none 0 0, .int .i64 1]) ∧ w' = w := by
  go_enter Tryz.func8, Tryz.ntmps8
  go_wp2_with fail
  go_ret2
  exact ⟨rfl, rfl⟩
set_option maxHeartbeats 2000000 in
set_option maxRecDepth 100000 in
theorem of_nil2 (w : World) (Q : Nat) : Calls Tryz.prog 8 #[qp Q, nilq] w fun e w' => e = .returned (.tuple #[.slice none 0 0, .int .i64 1]) ∧ w' = w := by
  go_enter Tryz.func8, Tryz.ntmps8
  go_wp2_with fail
  go_ret2
  exact ⟨rfl, rfl⟩
theorem ecs_zero {W : World} {base N c : Nat} {p : Option Addr} (h : W.ownsRow base 46 4 (.slice p N c) N (ecs [])) : N = 0 := by
  have := h.1
  simp [ecs] at this
  omega
set_option maxHeartbeats 2000000 in
set_option maxRecDepth 100000 in
theorem waitsNone_any (w : World) : Calls Tryz.prog 3 #[] w fun e w' => e = .returned (.bool true) ∧ RowKit.Below w.heap.size w w' := by
  have hmay : M.mayC ((2 : Nat) : Int) 3 2 3 2 := by decide
  go_enter Tryz.func3, Tryz.ntmps3
  go_wp2_with fail
  refine (M.new_ok w hmay).mono ?_
  rintro e w1 ⟨F, rfl, hp1, hf1, hb1⟩
  have HP1 : Hid (M.PL w1 F 0 (M.newA ((2 : Nat) : Int) 3 2 3 2)) := hp1
  have HF1 : Hid (∀ b, F.has b → w.heap.size ≤ b) := hf1
  have HB1 : Hid (RowKit.Below w.heap.size w w1) := hb1
  have HMY : Hid (M.mayC ((2 : Nat) : Int) 3 2 3 2) := hmay
  clear hp1 hf1 hb1 hmay
  go_wp2_with fail
  refine (K.new_ok 2 w1 (by omega) (by omega)).mono ?_
  rintro e w2 ⟨G, rfl, hp2, hf2, hg2, hb2⟩
  have HRS0 : Hid (Rs w w2 F.Q G.Q 0 (M.newA ((2 : Nat) : Int) 3 2 3 2) ⟨2, 0, []⟩ [] 0 (.slice none 0 0)) := ⟨F, G, rfl, rfl, {
    rz := {
      bel := below_then HB1.out hb2
      pm := HP1.out.later hb2
      pk := hp2
      ap := fun b hb e => by have h1 := HP1.out.lt hb; have h2 := hf2 b e; omega
      lm := HF1.out
      lk := fun b hb => by have h2 := hf2 b hb; have := HB1.out.size; omega }
    ow := World.ownsRow_nil _ _ _ _
    ln := rfl
    nf := fun g hg => by cases hg }⟩
  have HRM0 : Hid (Rm (M.newA ((2 : Nat) : Int) 3 2 3 2) ⟨2, 0, []⟩ []) := Rm.new HMY.out
  have HX : Hid ((M.newA ((2 : Nat) : Int) 3 2 3 2).next ≤ 100) := by show (1 : Int) ≤ 100; decide
  have HN : Hid (ofR (M.newA ((2 : Nat) : Int) 3 2 3 2) ⟨2, 0, []⟩ 64 = []) := HRM0.out.none rfl 64
  obtain ⟨Q, eQ⟩ : ∃ Q, F.Q = Q := ⟨_, rfl⟩
  obtain ⟨R, eR⟩ : ∃ R, G.Q = R := ⟨_, rfl⟩
  rw [eQ, eR] at HRS0 ⊢
  clear hp2 hf2 hg2 hb2 HP1 HF1 HB1 eQ eR HMY
  go_wp2_with fail
  refine (of_nil1 w2 _).mono ?_
  rintro e w3 ⟨rfl, hw3⟩
  rw [hw3]
  clear hw3
  go_wp2_with fail
  refine (of_nil2 w2 _).mono ?_
  rintro e w3 ⟨rfl, hw3⟩
  rw [hw3]
  clear hw3
  go_wp2_with fail
  refine (of_at HRS0.out HRM0.out HX.out (by omega)).mono ?_
  rintro e w4 ⟨p4, N4, c4, rfl, ho4, -, hb4⟩
  rw [HN.out] at ho4
  obtain rfl := ecs_zero ho4
  have HB4 : Hid (RowKit.Below w.heap.size w w4) := below_then HRS0.out.bel hb4
  clear ho4 hb4 HRS0 HRM0 HX HN
  go_wp2_with fail
  refine (heights_down (ein_nil w4) (by omega) (fun e he => by simp at he) (fun e he => by simp at he)).mono ?_
  rintro e w5 ⟨mb, N, rfl, hM, hN, hb5⟩
  obtain rfl := hN rfl
  have HB5 : Hid (RowKit.Below w.heap.size w w5) := below_then HB4.out hb5
  have hln := fun ty => hM.len ty
  clear hM hN hb5 HB4
  go_wp2_with fail
  clear hln
  refine (ring_down (ein_nil w5) (by omega) (fun e he => by simp at he)).mono ?_
  rintro e w6 ⟨q6, c6, rfl, hb6⟩
  have HB6 : Hid (RowKit.Below w.heap.size w w6) := below_then HB5.out hb6
  clear hb6 HB5
  go_wp2_with fail
  refine (free_at (ein_nil w6) (by omega) (fun e he => by simp at he) (uin_nil w6) (by omega) (fun e he => by simp at he)).mono ?_
  rintro e w7 ⟨q7, c7, rfl, -, hb7⟩
  have HB7 : Hid (RowKit.Below w.heap.size w w7) := below_then HB6.out hb7
  clear hb7 HB6
  have hfr : (freS [] []).length = 0 := rfl
  rw [hfr]
  go_wp2_with fail
  refine (awake_at _).mono ?_
  rintro e w8 ⟨rfl, hb8⟩
  have HB8 : Hid (RowKit.Below w.heap.size w w8) := below_then HB7.out hb8
  clear hb8 HB7
  go_wp2_with fail
  go_ret
  exact ⟨rfl, HB8.out⟩
end Go.Proofs.YtkgjmejpbklabaaGreat
