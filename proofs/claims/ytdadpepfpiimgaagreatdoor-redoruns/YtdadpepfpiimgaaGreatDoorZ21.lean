import Derived.Test.YtdadpepfpiimgaaGreatDoorZ20
set_option maxHeartbeats 20000000
set_option maxRecDepth 100000
namespace Go.Proofs.YtdadpepfpiimgaaGreatDoor.Q
open Go.RowKit
open Go.ChangeShapes Go.WideShapes Go.ChangeAt Go.Deep
theorem laidK : laidOutB Tryz.prog = true := by kernel_rfl
theorem cellsC : Tryz.prog.cellsOf 23 = 5 := by kernel_rfl
theorem openedC {H : Type} {enc : TypeId × Value → H} {W : World} {l : List Value} {n : Nat} {y : DataW H × List MemPlace} (h : DataW.trod enc Tryz.prog W 0 (fun _ => true) true n 23 l = some y) :
    ∃ a0 a1 a2 a3 a4 : Int, l[0]? = some (.int .i64 a0) ∧ l[1]? = some (.int .i64 a1) ∧ l[2]? = some (.int .i64 a2) ∧ l[3]? = some (.int .i64 a3) ∧ l[4]? = some (.int .i64 a4) := by
  obtain ⟨xs, k, _, hy, _, hxl, hg⟩ := DataW.trod_struct Tryz.underlying23 h
  have hxl5 : xs.length = 5 := hxl
  have g0 : DataW.trod enc Tryz.prog W 0 (fun _ => true) true k 3 ((l.drop 0).take (Tryz.prog.cellsOf 3)) = xs[0]? := hg 0 _ rfl
  have g1 : DataW.trod enc Tryz.prog W 0 (fun _ => true) true k 3 ((l.drop 1).take (Tryz.prog.cellsOf 3)) = xs[1]? := hg 1 _ rfl
  have g2 : DataW.trod enc Tryz.prog W 0 (fun _ => true) true k 3 ((l.drop 2).take (Tryz.prog.cellsOf 3)) = xs[2]? := hg 2 _ rfl
  have g3 : DataW.trod enc Tryz.prog W 0 (fun _ => true) true k 3 ((l.drop 3).take (Tryz.prog.cellsOf 3)) = xs[3]? := hg 3 _ rfl
  have g4 : DataW.trod enc Tryz.prog W 0 (fun _ => true) true k 3 ((l.drop 4).take (Tryz.prog.cellsOf 3)) = xs[4]? := hg 4 _ rfl
  rw [cells3, List.getElem?_eq_getElem (by omega)] at g0 g1 g2 g3 g4
  obtain ⟨a0, e0, _, w0⟩ := DataW.trod_int Tryz.underlying3 g0
  obtain ⟨a1, e1, _, w1⟩ := DataW.trod_int Tryz.underlying3 g1
  obtain ⟨a2, e2, _, w2⟩ := DataW.trod_int Tryz.underlying3 g2
  obtain ⟨a3, e3, _, w3⟩ := DataW.trod_int Tryz.underlying3 g3
  obtain ⟨a4, e4, _, w4⟩ := DataW.trod_int Tryz.underlying3 g4
  exact ⟨a0, a1, a2, a3, a4, drop_one _ _ _ e0, drop_one _ _ _ e1, drop_one _ _ _ e2, drop_one _ _ _ e3, drop_one _ _ _ e4⟩
theorem openedCfg {H : Type} {enc : TypeId × Value → H} {W : World} {cs : Array Value} {d : DataW H} {p : List MemPlace} (hn : cs.size = 5) (h : DataW.Trod enc Tryz.prog W 0 (fun _ => true) true 23 (.agg cs) d p) :
    ∃ s : Sup, cs = (ccells s).toArray := by
  obtain ⟨fuel, hf⟩ := h
  obtain ⟨l⟩ := cs
  have hl : l.length = 5 := by simpa using hn
  have hf' : DataW.trod enc Tryz.prog W 0 (fun _ => true) true fuel 23 l = some (d, p) := by simpa [Value.cells] using hf
  obtain ⟨a0, a1, a2, a3, a4, f0, f1, f2, f3, f4⟩ := openedC hf'
  refine ⟨⟨a0, a1, a2, a3, a4, 0, 0⟩, ?_⟩
  congr 1
  apply List.ext_getElem?
  intro i
  match i with
  | 0 => exact f0
  | 1 => exact f1
  | 2 => exact f2
  | 3 => exact f3
  | 4 => exact f4
  | j + 5 => rw [List.getElem?_eq_none (by omega)]; rfl
theorem slice_of {H : Type} {enc : TypeId × Value → H} {W : World} {t e : TypeId} {k : Nat} {c : Value} {y : DataW H × List MemPlace} (ht : Tryz.prog.underlying t = some (.slice e)) (h : DataW.trod enc Tryz.prog W 0 (fun _ => true) true k t [c] = some y) :
    ∃ a l cp, c = .slice a l cp := by
  rcases open_slice ht h with ⟨h0, _⟩ | ⟨a, len, cap, _, _, _, _, h0, _⟩
  · simp only [List.cons.injEq, and_true] at h0
    exact ⟨_, _, _, h0⟩
  · simp only [List.cons.injEq, and_true] at h0
    exact ⟨_, _, _, h0⟩
theorem weightsAll_mem {H : Type} {P : Program} {e : TypeId} : ∀ {l : List (DataW H)} {d : DataW H}, d ∈ l → ∀ n ∈ d.weights P e, n ∈ DataW.weightsAll P e l
  | x :: r, d, hd, n, hn => by
    simp only [DataW.weightsAll, List.mem_append]
    rcases List.mem_cons.1 hd with rfl | hd
    · exact .inl hn
    · exact .inr (weightsAll_mem hd n hn)
  | [], _, hd, _, _ => by cases hd
theorem one_cell {α : Type} (l : List α) (k : Nat) (h : k < l.length) : (l.drop k).take 1 = [l[k]] := by
  rw [List.drop_eq_getElem_cons h, List.take_succ_cons, List.take_zero]
end Go.Proofs.YtdadpepfpiimgaaGreatDoor.Q
namespace Go.Proofs.YtdadpepfpiimgaaGreatDoor.Q
open Go.RowKit
theorem setl_sec {K : Nat → Bool} {ws : List Wr} {d : List Int} {n : Nat} (hd : d.length = 64 * n) (hw : Fit n ws) {i : Nat} (hi : i < n) : ∀ k, k ≤ ws.length → (∃ j x, j < k ∧ K j = true ∧ ws[j]? = some x ∧ x.s = i ∧ sec (setl K ws d k) i = x.b ∧ ∀ j' y, j < j' → j' < k → K j' = true → ws[j']? = some y → y.s ≠ i) ∨ ((∀ j y, j < k → K j = true → ws[j]? = some y → y.s ≠ i) ∧ sec (setl K ws d k) i = sec d i)
  | 0, _ => .inr ⟨fun j y h => absurd h (Nat.not_lt_zero _), rfl⟩
  | k + 1, hk => by
    have hlt : k < ws.length := by omega
    rw [setl_step K ws d k hlt]
    by_cases c : K k = true
    · rw [if_pos c, sec_put (setl_length hd hw k) (hw.at k hlt).1 (hw.at k hlt).2.1 hi]
      by_cases e : i = ws[k].s
      · rw [if_pos e]
        exact .inl ⟨k, ws[k], by omega, c, List.getElem?_eq_getElem hlt, e.symm, rfl, fun j' y h1 h2 => by omega⟩
      · rw [if_neg e]
        rcases setl_sec hd hw hi k (by omega) with ⟨j, x, h1, h2, h3, h4, h5, h6⟩ | ⟨h1, h2⟩
        · refine .inl ⟨j, x, by omega, h2, h3, h4, h5, fun j' y a b cc dd => ?_⟩
          rcases Nat.lt_or_ge j' k with hj | hj
          · exact h6 j' y a hj cc dd
          · obtain rfl : j' = k := by omega
            rw [List.getElem?_eq_getElem hlt] at dd
            cases dd
            exact fun e2 => e e2.symm
        · refine .inr ⟨fun j y a b cc => ?_, h2⟩
          rcases Nat.lt_or_ge j k with hj | hj
          · exact h1 j y hj b cc
          · obtain rfl : j = k := by omega
            rw [List.getElem?_eq_getElem hlt] at cc
            cases cc
            exact fun e2 => e e2.symm
    · have c' : K k = false := by simpa using c
      rw [if_neg c]
      rcases setl_sec hd hw hi k (by omega) with ⟨j, x, h1, h2, h3, h4, h5, h6⟩ | ⟨h1, h2⟩
      · refine .inl ⟨j, x, by omega, h2, h3, h4, h5, fun j' y a b cc dd => ?_⟩
        rcases Nat.lt_or_ge j' k with hj | hj
        · exact h6 j' y a hj cc dd
        · obtain rfl : j' = k := by omega
          rw [c'] at cc; cases cc
      · refine .inr ⟨fun j y a b cc => ?_, h2⟩
        rcases Nat.lt_or_ge j k with hj | hj
        · exact h1 j y hj b cc
        · obtain rfl : j = k := by omega
          rw [c'] at b; cases b
section
variable {n : Nat} {D : Dd} {i : Nat}
theorem rd_nil (d : List Int) : (⟨d, []⟩ : Dd).rd = sec d := funext fun _ => newest_nil _ _
end
def wantS (tx : List TX) (b : Int) : List Int := if b ∈ blks (flat tx) then lastV (flat tx) b else zs 32
structure Lgs (c : Sup) (L : Nat → List Int) (tx : List TX) (fin : Int) : Prop where
  mc : MayC c
  run : scRun (stS c fun i => L (i - (1 + c.bl.toNat))) c.mr c.lc.toNat 0 ⟨[], 0, []⟩ = ⟨tx, fin, (scRun (stS c fun i => L (i - (1 + c.bl.toNat))) c.mr c.lc.toNat 0 ⟨[], 0, []⟩).come⟩
  low : ∀ i, i < c.lc.toNat → (R.decS (L i)).2 = 0 → (R.decS (L i)).1.pos < c.lc
  fin : 0 ≤ fin ∧ fin ≤ c.lc
structure Rv (c : Sup) (L : Nat → List Int) (tx : List TX) (fin : Int) (N : Int) (d : List Int) : Prop where
  ok : (⟨d, []⟩ : Dd).Ok (cntS c)
  log : ∀ i, i < c.lc.toNat → sec d (1 + c.bl.toNat + i) = L i
  old : (sec d 0 = encS (sup1 c) ∧ ∀ b : Nat, b < c.bl.toNat → sec d (1 + b) = homeS b (zs 32) ∨ sec d (1 + b) = homeS b (wantS tx b)) ∨ ∃ t l : Int, sec d 0 = encS ⟨c.bl, c.lc, c.mr, c.hi, c.cl, t, l⟩ ∧ c.lc ≤ t ∧ t ≤ 64 * l ∧ 2 ≤ l ∧ l ≤ N ∧ ∀ b : Nat, b < c.bl.toNat → sec d (1 + b) = homeS b (wantS tx b)
theorem stS_log {c : Sup} (hc : MayC c) {rd rd' : Nat → List Int} (h : ∀ i, i < c.lc.toNat → rd (1 + c.bl.toNat + i) = rd' (1 + c.bl.toNat + i)) : stS c rd = stS c rd' := funext fun p => by
  have hl := hc.2.1; have hb := hc.1
  have h1 := Int.emod_nonneg p (show c.lc ≠ 0 by omega)
  have h2 := Int.emod_lt_of_pos p (show 0 < c.lc by omega)
  have e : rd (1 + c.bl + p % c.lc).toNat = rd' (1 + c.bl + p % c.lc).toNat := by
    have := h (p % c.lc).toNat (by omega)
    rw [show 1 + c.bl.toNat + (p % c.lc).toNat = (1 + c.bl + p % c.lc).toNat by omega] at this
    exact this
  by_cases g : StndsAt c rd p
  · have g' : StndsAt c rd' p := by show _ ∧ _; rw [← e]; exact g
    rw [stS_yes g, stS_yes g', e]
  · have g' : ¬ StndsAt c rd' p := fun k => g (by show _ ∧ _; rw [e]; exact k)
    rw [stS_no g, stS_no g']
section
variable {c : Sup} {L : Nat → List Int} {tx : List TX} {fin N : Int} {d : List Int}
theorem Lgs.st (h : Lgs c L tx fin) (hl : ∀ i, i < c.lc.toNat → sec d (1 + c.bl.toNat + i) = L i) : stS c (sec d) = stS c fun i => L (i - (1 + c.bl.toNat)) :=
  stS_log h.mc fun i hi => by rw [hl i hi, Nat.add_sub_cancel_left]
theorem sup_back {t l : Int} (hc : MayC c) (h0 : 0 ≤ t) (ht : t ≤ 4611686018427387904) (h1 : 1 ≤ l) (hl : l ≤ 4611686018427387904) : decS (encS ⟨c.bl, c.lc, c.mr, c.hi, c.cl, t, l⟩) = (⟨c.bl, c.lc, c.mr, c.hi, c.cl, t, l⟩, 0) := by
  refine decS_encS _ ?_ ⟨hc, ht, h1, hl⟩
  refine ⟨⟨?_, ?_⟩, ⟨?_, ?_⟩, ⟨?_, ?_⟩, ⟨?_, ?_⟩, ⟨?_, ?_⟩, ⟨?_, ?_⟩, ⟨?_, ?_⟩⟩ <;> (show _ ≤ _) <;> (simp only []) <;> omega
theorem Rv.readA (h : Rv c L tx fin N d) (hL : Lgs c L tx fin) (h0 : sec d 0 = encS (sup1 c)) : rdL c (cntS c) (⟨d, []⟩ : Dd).rd = (⟨0, 1, fin, tx⟩, 0) := by
  rw [rd_nil]
  exact rdL_new hL.mc h0 (s := ⟨tx, fin, _⟩) (by rw [hL.st h.log]; exact hL.run)
theorem Rv.readB (h : Rv c L tx fin N d) (hL : Lgs c L tx fin) {t l : Int} (h0 : sec d 0 = encS ⟨c.bl, c.lc, c.mr, c.hi, c.cl, t, l⟩) (ht : c.lc ≤ t) (htl : t ≤ 64 * l) (hl2 : 2 ≤ l) (hlN : l ≤ 1000) : rdL c (cntS c) (⟨d, []⟩ : Dd).rd = (⟨t, l, t, []⟩, 0) := by
  have hc := hL.mc
  have hlc := hc.2.1; have hb := hc.1
  rw [rd_nil]
  have hd := sup_back (c := c) (t := t) (l := l) hc (by omega) (by omega) (by omega) (by omega)
  have hs : supOf c (cntS c) (sec d) = (⟨c.bl, c.lc, c.mr, c.hi, c.cl, t, l⟩, 0) := by
    rw [supOf_ok hc (cntS_is hc) (by rw [h0, hd]) (by rw [h0, hd]; exact ⟨rfl, rfl, rfl, rfl, rfl⟩), h0, hd]
  rw [rdL_ok (by rw [hs]), hs]
  have h1 := Int.emod_nonneg t (show c.lc ≠ 0 by omega)
  have h2 := Int.emod_lt_of_pos t (show 0 < c.lc by omega)
  have hoff : (stS c (sec d) t).2 = false := by
    rw [stS_no]
    rintro ⟨e1, e2, _⟩
    have e := h.log (t % c.lc).toNat (by omega)
    rw [show 1 + c.bl.toNat + (t % c.lc).toNat = (1 + c.bl + t % c.lc).toNat by omega] at e
    rw [e] at e1 e2
    have := hL.low _ (by omega) e1
    omega
  unfold scanS
  simp only []
  rw [scRun_off hoff]
end
end Go.Proofs.YtdadpepfpiimgaaGreatDoor.Q
namespace Go.Proofs.YtdadpepfpiimgaaGreatDoor.Q
open Go.RowKit
theorem carD_d : ∀ (l : List Im) (D : Dd), (carD l D).d = D.d
  | [], _ => rfl
  | _ :: l, _ => carD_d l _
theorem carD_ws : ∀ (l : List Im) (D : Dd), (carD l D).ws = D.ws ++ l.map fun i => ⟨(1 + i.b).toNat, homeS i.b i.v⟩
  | [], D => (List.append_nil _).symm
  | i :: l, D => by
    show (carD l _).ws = _
    rw [carD_ws l]
    show (D.ws ++ [_]) ++ _ = _
    rw [List.append_assoc]; rfl
theorem go_mid (n : Nat) : ∀ (l : List Im) (x : Rc) (D : Dd) (j : Nat), x.left = l → (x.st = 2 → l ≠ []) → (x.st ≠ 2 → l = []) → (x.st = 2 ∨ x.st = 3) → (goS n j x D).ok = true ∧ ((∃ m, m ≤ l.length ∧ (goS n j x D).D = carD (l.take m) D) ∨ (goS n j x D).D = (carD l D).fls ∨ (goS n j x D).D = (carD l D).fls.wr 0 (encS (supN x)) ∨ (goS n j x D).D = ((carD l D).fls.wr 0 (encS (supN x))).fls)
  | l, x, D, 0, _, _, _, _ => ⟨rfl, .inl ⟨0, Nat.zero_le _, by rw [List.take_zero]; rfl⟩⟩
  | [], x, D, j + 1, hl, h2, _, hs => by
    have h3 : x.st = 3 := hs.resolve_left fun e => h2 e rfl
    have e := step_flush (n := n) (D := D) h3
    rw [goS_step (by omega) (by rw [e]), e]
    cases j with
    | zero => exact ⟨rfl, .inr (.inl rfl)⟩
    | succ j =>
      have e2 := step_mark (n := n) (x := { x with st := 4 }) (D := D.fls) rfl
      rw [goS_step (x := { x with st := 4 }) (by show (4 : Int) ≠ 6; decide) (by rw [e2]), e2]
      cases j with
      | zero => exact ⟨rfl, .inr (.inr (.inl rfl))⟩
      | succ j =>
        rw [go5 (x := { x with st := 5 }) rfl (by omega)]
        exact ⟨rfl, .inr (.inr (.inr rfl))⟩
  | i :: l, x, D, j + 1, hl, h2, hn, hs => by
    have h3 : x.st = 2 := hs.resolve_right fun e => by have := hn (by omega); cases this
    have e := step_carry (n := n) (D := D) h3 hl
    have ho := aftS_or l
    rw [goS_step (by omega) (by rw [e]), e]
    obtain ⟨a, b⟩ := go_mid n l { x with st := aftS l, left := l } (D.wr (1 + i.b).toNat (homeS i.b i.v)) j rfl (fun e => aftS_car e) (fun e => aftS_non e) (by show aftS l = 2 ∨ aftS l = 3; exact ho)
    refine ⟨a, ?_⟩
    rcases b with ⟨m, hm, b⟩ | b
    · exact .inl ⟨m + 1, by simp only [List.length_cons]; omega, b⟩
    · exact .inr b
section
variable {n : Nat} {D : Dd} {i : Nat}
theorem settle_one (h : D.Ok n) (K : Nat → Bool) (hi : i < n) : (∃ x ∈ D.ws, x.s = i ∧ sec (settle K D.ws D.d) i = x.b) ∨ sec (settle K D.ws D.d) i = sec D.d i := by
  rcases setl_sec (K := K) h.dl h.fit hi D.ws.length (Nat.le_refl _) with ⟨j, x, _, _, h3, h4, h5, _⟩ | ⟨_, h2⟩
  · exact .inl ⟨x, List.mem_of_getElem? h3, h4, h5⟩
  · exact .inr h2
theorem settle_all (h : D.Ok n) (hi : i < n) {x : Wr} (hx : x ∈ D.ws) (hs : x.s = i) : ∃ y ∈ D.ws, y.s = i ∧ sec D.fls.d i = y.b := by
  rcases setl_sec (K := fun _ => true) h.dl h.fit hi D.ws.length (Nat.le_refl _) with ⟨j, x, _, _, h3, h4, h5, _⟩ | ⟨h1, _⟩
  · exact ⟨x, List.mem_of_getElem? h3, h4, h5⟩
  · obtain ⟨j, hj, e⟩ := List.mem_iff_getElem.1 hx
    exact absurd hs (h1 j x hj rfl (by rw [List.getElem?_eq_getElem hj, e]))
end
structure Crr (c : Sup) (tx : List TX) (l : List Im) : Prop where
  blk : ∀ i ∈ l, 0 ≤ i.b ∧ i.b < c.bl
  val : ∀ i ∈ l, i.v = wantS tx i.b
  wf : ImsWf l
section
variable {c : Sup} {L : Nat → List Int} {tx : List TX} {fin N : Int} {d : List Int} {l : List Im}
theorem Crr.take (h : Crr c tx l) (m : Nat) : Crr c tx (l.take m) := ⟨fun i hi => h.blk i (List.mem_of_mem_take hi), fun i hi => h.val i (List.mem_of_mem_take hi), fun i hi => h.wf i (List.mem_of_mem_take hi)⟩
theorem Crr.ok (h : Crr c tx l) (hc : MayC c) (hd : (⟨d, []⟩ : Dd).Ok (cntS c)) : (carD l ⟨d, []⟩).Ok (cntS c) := by
  refine ⟨hd.n1, hd.n2, by rw [carD_d]; exact hd.dl, by rw [carD_d]; exact hd.db, ?_⟩
  rw [carD_ws]
  intro x hx
  obtain ⟨i, hi, rfl⟩ := List.mem_map.1 (by simpa using hx)
  have b := h.blk i hi; have hb := hc.1
  refine ⟨?_, homeS_len _ (h.wf i hi).len, homeS_bytes (by unfold inB; omega) (h.wf i hi).byte⟩
  show (1 + i.b).toNat < cntS c
  unfold cntS; omega
theorem Crr.wr (h : Crr c tx l) {x : Wr} (hx : x ∈ (carD l ⟨d, []⟩).ws) : ∃ b : Nat, b < c.bl.toNat ∧ x.s = 1 + b ∧ x.b = homeS b (wantS tx b) := by
  rw [carD_ws] at hx
  obtain ⟨i, hi, rfl⟩ := List.mem_map.1 (show x ∈ l.map _ by simpa using hx)
  have b := h.blk i hi
  refine ⟨i.b.toNat, by omega, by show (1 + i.b).toNat = _; omega, ?_⟩
  show homeS i.b i.v = _
  rw [h.val i hi, show ((i.b.toNat : Nat) : Int) = i.b by omega]
theorem Crr.settle (h : Crr c tx l) (hc : MayC c) (hd : (⟨d, []⟩ : Dd).Ok (cntS c)) (K : Nat → Bool) : let e := Go.Proofs.YtdadpepfpiimgaaGreatDoor.settle K (carD l ⟨d, []⟩).ws (carD l ⟨d, []⟩).d
    (⟨e, []⟩ : Dd).Ok (cntS c) ∧ sec e 0 = sec d 0 ∧ (∀ i, i < c.lc.toNat → sec e (1 + c.bl.toNat + i) = sec d (1 + c.bl.toNat + i)) ∧ ∀ b : Nat, b < c.bl.toNat → sec e (1 + b) = homeS b (wantS tx b) ∨ sec e (1 + b) = sec d (1 + b) := by
  have ok := h.ok hc hd
  have hb := hc.1; have hl := hc.2.1
  have hdd : (carD l ⟨d, []⟩).d = d := carD_d l _
  refine ⟨⟨hd.n1, hd.n2, setl_length ok.dl ok.fit _, setl_bytes ok.db ok.fit _, Fit.nil _⟩, ?_, fun i hi => ?_, fun b hb2 => ?_⟩
  · rcases settle_one ok K (i := 0) (by have := hd.n1; omega) with ⟨x, hx, e, _⟩ | e
    · obtain ⟨b, _, e2, _⟩ := h.wr hx; omega
    · rw [e, hdd]
  · rcases settle_one ok K (i := 1 + c.bl.toNat + i) (by unfold cntS; omega) with ⟨x, hx, e, _⟩ | e
    · obtain ⟨b, h1, e2, _⟩ := h.wr hx; omega
    · rw [e, hdd]
  · rcases settle_one ok K (i := 1 + b) (by unfold cntS; omega) with ⟨x, hx, e, e3⟩ | e
    · obtain ⟨b', h1, e2, e4⟩ := h.wr hx
      obtain rfl : b' = b := by omega
      exact .inl (by rw [e3, e4])
    · exact .inr (by rw [e, hdd])
theorem Rv.mono (h : Rv c L tx fin N d) {M : Int} (hm : N ≤ M) : Rv c L tx fin M d := ⟨h.ok, h.log, h.old.elim .inl fun ⟨t, l, a, b, e, f, g, k⟩ => .inr ⟨t, l, a, b, e, f, by omega, k⟩⟩
theorem sup_crs {e : List Int} {s : List Int} (hc : MayC c) (he : (⟨e, []⟩ : Dd).Ok (cntS c)) (hs : s.length = 64) (hb : Bytes s) (K : Nat → Bool) : let f := Go.Proofs.YtdadpepfpiimgaaGreatDoor.settle K ((⟨e, []⟩ : Dd).wr 0 s).ws e
    (⟨f, []⟩ : Dd).Ok (cntS c) ∧ (sec f 0 = sec e 0 ∨ sec f 0 = s) ∧ (∀ i, 0 < i → i < cntS c → sec f i = sec e i) ∧ (K 0 = true → sec f 0 = s) := by
  have hcn := cntS_bd hc
  have ok : ((⟨e, []⟩ : Dd).wr 0 s).Ok (cntS c) := he.wr (by omega) hs hb
  have hx : ∀ x ∈ ((⟨e, []⟩ : Dd).wr 0 s).ws, x.s = 0 ∧ x.b = s := fun x hx => by
    have : x = ⟨0, s⟩ := by simpa [Dd.wr] using hx
    rw [this]; exact ⟨rfl, rfl⟩
  refine ⟨⟨he.n1, he.n2, setl_length ok.dl ok.fit _, setl_bytes ok.db ok.fit _, Fit.nil _⟩, ?_, fun i h0 hi => ?_, fun hK => ?_⟩
  · rcases settle_one ok K (i := 0) (by omega) with ⟨x, hxm, _, e2⟩ | e2
    · exact .inr (e2.trans (hx x hxm).2)
    · exact .inl e2
  · rcases settle_one ok K hi with ⟨x, hxm, e1, _⟩ | e2
    · have := (hx x hxm).1; omega
    · exact e2
  · rcases setl_sec (K := K) ok.dl ok.fit (i := 0) (by omega) 1 (Nat.le_refl _) with ⟨j, x, _, _, h3, _, h5, _⟩ | ⟨h1, _⟩
    · exact h5.trans (hx x (List.mem_of_getElem? h3)).2
    · exact absurd rfl (h1 0 ⟨0, s⟩ (by omega) hK rfl)
end
end Go.Proofs.YtdadpepfpiimgaaGreatDoor.Q
namespace Go.Proofs.YtdadpepfpiimgaaGreatDoor.Q
open Go.RowKit
section
variable {c : Sup} {L : Nat → List Int} {tx : List TX} {fin N : Int} {d : List Int}
theorem Rv.reads (h : Rv c L tx fin N d) (hL : Lgs c L tx fin) (hN : N ≤ 100) : ∃ t l lf, rdE (cntS c) c ⟨d, []⟩ = 0 ∧ readR (cntS c) (r0 c) ⟨d, []⟩ = ⟨c, aftS lf, t, l, lf⟩ ∧ (⟨c, aftS lf, t, l, lf⟩ : Rc).Ok (cntS c) ∧ Crr c tx lf ∧ 0 ≤ t ∧ t + c.lc ≤ 64 * (l + 1) ∧ 1 ≤ l ∧ l ≤ (if N < 1 then 1 else N) ∧ ((sec d 0 = encS (sup1 c) ∧ lf = nwS (flat tx)) ∨ (lf = [] ∧ ∀ b : Nat, b < c.bl.toNat → sec d (1 + b) = homeS b (wantS tx b))) := by
  have hc := hL.mc
  have hlc := hc.2.1
  have hfin := hL.fin
  have hok : (r0 c).Ok (cntS c) := start_ok hc (cntS_is hc)
  rcases h.old with ⟨h0, hh⟩ | ⟨t, l, h0, ht, htl, hl2, hlN, hh⟩
  · have hr := h.readA hL h0
    have el : lgS (cntS c) c ⟨d, []⟩ = ⟨0, 1, fin, tx⟩ := by unfold lgS; rw [hr]
    have e2 : (rdL c (cntS c) (⟨d, []⟩ : Dd).rd).2 = 0 := by rw [hr]
    have hw : ¬ wrapS c (lgS (cntS c) c ⟨d, []⟩) := by rw [el]; show ¬ (_ ∨ _); simp only []; omega
    have hE : rdE (cntS c) c ⟨d, []⟩ = 0 := by unfold rdE; rw [if_pos e2, if_neg hw]
    have eR : readR (cntS c) (r0 c) ⟨d, []⟩ = ⟨c, aftS (nwS (flat tx)), fin, 1, nwS (flat tx)⟩ := by unfold readR; rw [el]
    have hro := read_ok hok h.ok hE
    rw [eR] at hro
    refine ⟨fin, 1, nwS (flat tx), hE, eR, hro, ⟨hro.blk, fun i hi => ?_, hro.wf⟩, hfin.1, by omega, by omega, by split <;> omega, .inl ⟨h0, rfl⟩⟩
    unfold wantS
    rw [if_pos ((nwS_blks _ _).1 (List.mem_map.2 ⟨i, hi, rfl⟩)), nwS_last _ i hi]
  · have hr := h.readB hL h0 ht htl hl2 (by omega)
    have el : lgS (cntS c) c ⟨d, []⟩ = ⟨t, l, t, []⟩ := by unfold lgS; rw [hr]
    have e2 : (rdL c (cntS c) (⟨d, []⟩ : Dd).rd).2 = 0 := by rw [hr]
    have hw : ¬ wrapS c (lgS (cntS c) c ⟨d, []⟩) := by rw [el]; show ¬ (_ ∨ _); simp only []; omega
    have hE : rdE (cntS c) c ⟨d, []⟩ = 0 := by unfold rdE; rw [if_pos e2, if_neg hw]
    have eR : readR (cntS c) (r0 c) ⟨d, []⟩ = ⟨c, aftS [], t, l, []⟩ := by unfold readR; rw [el]; rfl
    have hro := read_ok hok h.ok hE
    rw [eR] at hro
    exact ⟨t, l, [], hE, eR, hro, ⟨fun i hi => (by cases hi), fun i hi => (by cases hi), ImsWf.nil⟩, by omega, by omega, by omega, by split <;> omega, .inr ⟨rfl, hh⟩⟩
theorem wantS_off {b : Int} (h : b ∉ blks (flat tx)) : wantS tx b = zs 32 := if_neg h
theorem Rv.flushed (h : Rv c L tx fin N d) (hL : Lgs c L tx fin) {lf : List Im} (hcr : Crr c tx lf) (ho : (sec d 0 = encS (sup1 c) ∧ lf = nwS (flat tx)) ∨ (lf = [] ∧ ∀ b : Nat, b < c.bl.toNat → sec d (1 + b) = homeS b (wantS tx b))) : (⟨(carD lf ⟨d, []⟩).fls.d, []⟩ : Dd).Ok (cntS c) ∧ sec (carD lf ⟨d, []⟩).fls.d 0 = sec d 0 ∧ (∀ i, i < c.lc.toNat → sec (carD lf ⟨d, []⟩).fls.d (1 + c.bl.toNat + i) = L i) ∧ ∀ b : Nat, b < c.bl.toNat → sec (carD lf ⟨d, []⟩).fls.d (1 + b) = homeS b (wantS tx b) := by
  have hc := hL.mc
  obtain ⟨a, b, e, f⟩ := hcr.settle hc h.ok (fun _ => true)
  refine ⟨a, b, fun i hi => (e i hi).trans (h.log i hi), fun k hk => ?_⟩
  rcases ho with ⟨h0, el⟩ | ⟨el, hh⟩
  · by_cases hm : (k : Int) ∈ blks (flat tx)
    · obtain ⟨i, hi, e1⟩ := List.mem_map.1 ((nwS_blks (flat tx) k).2 hm)
      rw [← el] at hi
      have hb := hcr.blk i hi
      have hx : (⟨(1 + i.b).toNat, homeS i.b i.v⟩ : Wr) ∈ (carD lf ⟨d, []⟩).ws := by
        rw [carD_ws]
        exact List.mem_append.2 (.inr (List.mem_map.2 ⟨i, hi, rfl⟩))
      have e1 : i.b = (k : Int) := e1
      obtain ⟨y, hy, hs, hv⟩ := settle_all (hcr.ok hc h.ok) (i := 1 + k) (by have := hc.1; unfold cntS; omega) hx (by show (1 + i.b).toNat = 1 + k; omega)
      obtain ⟨b', h1, e2, e4⟩ := hcr.wr hy
      obtain rfl : b' = k := by omega
      rw [hv, e4]
    · rcases f k hk with e1 | e1
      · exact e1
      · rcases h.old with ⟨_, hh⟩ | ⟨t, l, _, _, _, _, _, hh⟩
        · have := hh k hk
          rw [wantS_off hm, or_self] at this
          rw [wantS_off hm]
          exact e1.trans this
        · exact e1.trans (hh k hk)
  · rcases f k hk with e1 | e1
    · exact e1
    · exact e1.trans (hh k hk)
theorem Rv.broken (h : Rv c L tx fin N d) (hL : Lgs c L tx fin) (hN : N ≤ 100) (h1 : 1 ≤ N) (k : Nat) (K : List Int) : (goS (cntS c) k (r0 c) ⟨d, []⟩).ok = true ∧ ((goS (cntS c) k (r0 c) ⟨d, []⟩).D.crs K).ws = [] ∧ Rv c L tx fin (N + 1) ((goS (cntS c) k (r0 c) ⟨d, []⟩).D.crs K).d := by
  have hc := hL.mc
  obtain ⟨t, l, lf, hE, eR, hro, hcr, ht0, htl, hl1, hlN, hold⟩ := h.reads hL hN
  rw [if_neg (by omega)] at hlN
  cases k with
  | zero => exact ⟨rfl, rfl, h.mono (by omega)⟩
  | succ j =>
    have e := step_read (x := r0 c) (n := cntS c) rfl hE
    rw [goS_step (by show (1 : Int) ≠ 6; decide) (by rw [e]), e, eR]
    obtain ⟨a, b⟩ := go_mid (cntS c) lf ⟨c, aftS lf, t, l, lf⟩ ⟨d, []⟩ j rfl (fun e => aftS_car e) (fun e => aftS_non e) (aftS_or lf)
    refine ⟨a, rfl, ?_⟩
    obtain ⟨fa, fb, fe, ff⟩ := h.flushed hL hcr hold
    have hflsA : Rv c L tx fin N (carD lf ⟨d, []⟩).fls.d := ⟨fa, fe, by
      rcases h.old with ⟨h0, hh⟩ | ⟨t', l', h0, q1, q2, q3, q4, hh⟩
      · exact .inl ⟨fb.trans h0, fun b hb => .inr (ff b hb)⟩
      · exact .inr ⟨t', l', fb.trans h0, q1, q2, q3, q4, ff⟩⟩
    have hsup := hro.sup
    rcases b with ⟨m, hm, b⟩ | b | b | b
    · show Rv c L tx fin (N + 1) ((goS (cntS c) j ⟨c, aftS lf, t, l, lf⟩ ⟨d, []⟩).D.crs K).d
      rw [b]
      obtain ⟨x1, x2, x3, x4⟩ := (hcr.take m).settle hc h.ok (keepsK K)
      refine ⟨x1, fun i hi => (x3 i hi).trans (h.log i hi), ?_⟩
      rcases h.old with ⟨h0, hh⟩ | ⟨t', l', h0, q1, q2, q3, q4, hh⟩
      · refine .inl ⟨x2.trans h0, fun b hb => ?_⟩
        rcases x4 b hb with y | y
        · exact .inr y
        · exact (hh b hb).elim (fun z => .inl (y.trans z)) (fun z => .inr (y.trans z))
      · exact .inr ⟨t', l', x2.trans h0, q1, q2, q3, by omega, fun b hb => (x4 b hb).elim id fun y => y.trans (hh b hb)⟩
    · show Rv c L tx fin (N + 1) ((goS (cntS c) j ⟨c, aftS lf, t, l, lf⟩ ⟨d, []⟩).D.crs K).d
      rw [b]
      exact hflsA.mono (by omega)
    · show Rv c L tx fin (N + 1) ((goS (cntS c) j ⟨c, aftS lf, t, l, lf⟩ ⟨d, []⟩).D.crs K).d
      rw [b]
      obtain ⟨s1, s2, s3, _⟩ := sup_crs (s := encS (supN ⟨c, aftS lf, t, l, lf⟩)) hc fa (encS_len _) (encS_bytes _) (keepsK K)
      have hlog : ∀ i, i < c.lc.toNat → sec (settle (keepsK K) ((⟨(carD lf ⟨d, []⟩).fls.d, []⟩ : Dd).wr 0 (encS (supN ⟨c, aftS lf, t, l, lf⟩))).ws (carD lf ⟨d, []⟩).fls.d) (1 + c.bl.toNat + i) = L i := fun i hi => (s3 _ (by omega) (by unfold cntS; omega)).trans (fe i hi)
      have hhom : ∀ b : Nat, b < c.bl.toNat → sec (settle (keepsK K) ((⟨(carD lf ⟨d, []⟩).fls.d, []⟩ : Dd).wr 0 (encS (supN ⟨c, aftS lf, t, l, lf⟩))).ws (carD lf ⟨d, []⟩).fls.d) (1 + b) = homeS b (wantS tx b) := fun b hb => (s3 _ (by omega) (by unfold cntS; omega)).trans (ff b hb)
      refine ⟨s1, hlog, ?_⟩
      rcases s2 with s2 | s2
      · rcases h.old with ⟨h0, hh⟩ | ⟨t', l', h0, q1, q2, q3, q4, hh⟩
        · exact .inl ⟨(s2.trans fb).trans h0, fun b hb => .inr (hhom b hb)⟩
        · exact .inr ⟨t', l', (s2.trans fb).trans h0, q1, q2, q3, by omega, hhom⟩
      · exact .inr ⟨t + c.lc, l + 1, s2, by omega, by omega, by omega, by omega, hhom⟩
    · show Rv c L tx fin (N + 1) ((goS (cntS c) j ⟨c, aftS lf, t, l, lf⟩ ⟨d, []⟩).D.crs K).d
      rw [b]
      obtain ⟨s1, _, s3, s4⟩ := sup_crs (s := encS (supN ⟨c, aftS lf, t, l, lf⟩)) hc fa (encS_len _) (encS_bytes _) (fun _ => true)
      refine ⟨s1, fun i hi => (s3 _ (by omega) (by unfold cntS; omega)).trans (fe i hi), .inr ⟨t + c.lc, l + 1, s4 rfl, by omega, by omega, by omega, by omega, fun b hb => (s3 _ (by omega) (by unfold cntS; omega)).trans (ff b hb)⟩⟩
theorem Rv.ends (h : Rv c L tx fin N d) (hL : Lgs c L tx fin) (hN : N ≤ 100) : ∃ (m : Nat) (t l : Int) (e : List Int), (m : Int) ≤ c.lc - 1 ∧ goS (cntS c) 200 (r0 c) ⟨d, []⟩ = ⟨19 :: (List.replicate m 15 ++ [12, 16, 20]), true, ⟨c, 6, t, l, []⟩, ⟨e, []⟩⟩ ∧ 0 ≤ t ∧ 1 ≤ l ∧ (∀ i, i < c.lc.toNat → sec e (1 + c.bl.toNat + i) = L i) ∧ ∀ b : Nat, b < c.bl.toNat → sec e (1 + b) = homeS b (wantS tx b) := by
  have hc := hL.mc
  have hlc := hc.2.1
  obtain ⟨t, l, lf, hE, eR, hro, hcr, ht0, htl, hl1, hlN, hold⟩ := h.reads hL hN
  obtain ⟨fa, fb, fe, ff⟩ := h.flushed hL hcr hold
  have e := step_read (x := r0 c) (n := cntS c) rfl hE
  have hfew := hro.few
  obtain ⟨s1, _, s3, s4⟩ := sup_crs (s := encS (supN ⟨c, aftS lf, t, l, lf⟩)) hc fa (encS_len _) (encS_bytes _) (fun _ => true)
  refine ⟨lf.length, t, l, _, hfew, ?_, ht0, hl1, fun i hi => (s3 _ (by omega) (by unfold cntS; omega)).trans (fe i hi), fun b hb => (s3 _ (by omega) (by unfold cntS; omega)).trans (ff b hb)⟩
  rw [goS_step (k := 199) (by show (1 : Int) ≠ 6; decide) (by rw [e]), e, eR]
  have hge := go_end (n := cntS c) (k := 199) (D := ⟨d, []⟩) hro (aftS_or lf) (by have hfew : (lf.length : Int) ≤ c.lc - 1 := hfew; show lf.length + 3 ≤ 199; omega)
  rw [hge]
  rfl
end
end Go.Proofs.YtdadpepfpiimgaaGreatDoor.Q
namespace Go.Proofs.YtdadpepfpiimgaaGreatDoor.Q
open Go.RowKit
theorem newS_len (s : Sup) : (newS s).length = 64 * cntS s := by
  unfold newS cntS
  rw [List.length_append, List.length_append, encS_len, homes_len, zs_len]; omega
theorem homes_sec (n i : Nat) (R : List Int) (h : i < n) : ((homes n ++ R).drop (64 * i)).take 64 = homeS (i : Int) (zs 32) := by
  induction n generalizing R with
  | zero => omega
  | succ n ih =>
    rw [homes_succ, List.append_assoc]
    by_cases c : i < n
    · exact ih _ c
    · obtain rfl : i = n := by omega
      have hl := homes_len i
      rw [List.drop_append_of_le_length (by omega), List.drop_of_length_le (by omega), List.nil_append, List.take_append_of_le_length (by rw [homeS_len _ (zs_len 32)]; omega), List.take_of_length_le (by rw [homeS_len _ (zs_len 32)]; omega)]
theorem newS_sec (s : Sup) (i : Nat) (h : i < s.bl.toNat) : sec (newS s) (1 + i) = homeS (i : Int) (zs 32) := by
  unfold newS sec
  have e : (encS (sup1 s) ++ (homes s.bl.toNat ++ zs (64 * s.lc.toNat))).drop 64 = homes s.bl.toNat ++ zs (64 * s.lc.toNat) := by
    rw [List.drop_append_of_le_length (by rw [encS_len]; omega), List.drop_of_length_le (l := encS (sup1 s)) (by rw [encS_len]; omega), List.nil_append]
  rw [List.append_assoc, show 64 * (1 + i) = 64 + 64 * i by omega, ← List.drop_drop, e]
  exact homes_sec _ i _ h
theorem foldS_pos {mr : Int} : ∀ (l : List R.Rec) (p : Int) (s s' : Sc), 0 ≤ p → (∀ t ∈ s.txs, 0 ≤ t.p) → foldS mr l p s = some s' → ∀ t ∈ s'.txs, 0 ≤ t.p
  | [], p, s, s', _, h, e => by cases e; exact h
  | r :: l, p, s, s', hp, h, e => by
    have e : (scStep mr s p r).bind (fun s' => foldS mr l (p + 1) s') = some s' := e
    cases e1 : scStep mr s p r with
    | none => rw [e1] at e; cases e
    | some s1 =>
      rw [e1] at e
      refine foldS_pos l (p + 1) s1 s' (by omega) ?_ e
      by_cases c1 : r.kind = 1 ∧ Folls s.come r.block mr
      · rw [scStep_img c1] at e1; cases e1; exact h
      · by_cases c2 : r.kind = 2 ∧ r.images = s.come.length
        · rw [scStep_com c2] at e1; cases e1
          intro t ht
          rcases List.mem_append.1 ht with ht | ht
          · exact h t ht
          · rw [List.mem_singleton.1 ht]; exact hp
        · rw [scStep_no c1 c2] at e1; cases e1
theorem lg_lap {q c : Int} (h0 : 0 ≤ q) (h1 : q < c) : q % c = q := Int.emod_eq_of_lt h0 h1
structure Wt (c : Sup) (g : Lg) (D : Dd) (al : List R.Rec) (s : Sc) (sf : Nat) : Prop where
  mc : MayC c
  ok : g.Ok
  gc : g.c = c
  gt : g.tail = 0
  fin : g.fin = al.length
  len : al.length ≤ c.lc.toNat
  sl : sf ≤ al.length
  dok : D.Ok (cntS c)
  wsl : D.ws.length = al.length - sf
  wsa : ∀ (i : Nat) (r : R.Rec), al[sf + i]? = some r → D.ws[i]? = some ⟨1 + c.bl.toNat + (sf + i), R.encS r⟩
  dur : ∀ (i : Nat) (r : R.Rec), i < sf → al[i]? = some r → sec D.d (1 + c.bl.toNat + i) = R.encS r
  blk : ∀ i : Nat, sf ≤ i → i < c.lc.toNat → sec D.d (1 + c.bl.toNat + i) = zs 64
  sup : sec D.d 0 = encS (sup1 c)
  hom : ∀ b : Nat, b < c.bl.toNat → sec D.d (1 + b) = homeS b (zs 32)
  rcd : ∀ (i : Nat) (r : R.Rec), al[i]? = some r → r.Wf ∧ R.may r = true ∧ r.pos = i ∧ r.block < c.bl
  fold : foldS c.mr al 0 ⟨[], 0, []⟩ = some s
  imgs : g.imgs = s.come.length
  last : s.come.length ≠ 0 → g.last = lastB s.come
  lst0 : s.come.length = 0 → g.last = -1
section
variable {c : Sup} {g g' : Lg} {D : Dd} {al : List R.Rec} {s s' : Sc} {sf : Nat}
theorem Wt.start (h : MayC c) : Wt c (opnG c 0 1) ⟨newS c, []⟩ [] ⟨[], 0, []⟩ 0 := by
  have hb := h.1; have hl := h.2.1
  have h0 : opnS c (1 + c.bl + c.lc) 0 1 = 0 := opnS_ok h rfl (by omega) (by omega)
  refine ⟨h, opnG_ok h0 (by omega) (by omega), rfl, rfl, rfl, Nat.zero_le _, Nat.le_refl _, ⟨by have := cntS_bd h; omega, by have := cntS_bd h; omega, newS_len c, newS_bytes h, Fit.nil _⟩, rfl, fun i r e => (by simp at e), fun i r e => absurd e (Nat.not_lt_zero _), fun i _ hi => newS_log c _ (by omega) (by unfold cntS; omega), newS_sup c, fun b hb => ?_, fun i r e => (by simp at e), rfl, rfl, fun k => absurd rfl k, fun _ => rfl⟩
  exact newS_sec c b hb
theorem Wt.app (h : Wt c g D al s sf) (hm : moreS g = 0) (ok' : g'.Ok) (hc : g'.c = g.c) (ht : g'.tail = g.tail) (hf : g'.fin = g.fin + 1) {r : R.Rec} (hw : r.Wf) (hmay : R.may r = true) (hp : r.pos = g.fin) (hstep : scStep c.mr s g.fin r = some s') (hi : g'.imgs = s'.come.length) (hla : s'.come.length ≠ 0 → g'.last = lastB s'.come) (hla0 : s'.come.length = 0 → g'.last = -1) (hbd : r.block < c.bl) :
    Wt c g' (D.wr (secN g g.fin).toNat (R.encS r)) (al ++ [r]) s' sf := by
  have m2 := (moreS_zero hm).2
  have hu := h.ok.us
  have hfin := h.fin
  rw [h.gc, h.gt] at m2 hu
  have hb := h.mc.1; have hl := h.mc.2.1
  have hsl := h.sl
  have hlt : al.length < c.lc.toNat := by omega
  have hsec : (secN g g.fin).toNat = 1 + c.bl.toNat + al.length := by
    unfold secN
    rw [h.gc, hfin, lg_lap (by omega) (by omega)]; omega
  rw [hsec]
  have hws := h.wsl
  have hval : r.val.length = 32 := hw.len
  refine ⟨h.mc, ok', by rw [hc, h.gc], by rw [ht, h.gt], by rw [hf, List.length_append, List.length_singleton]; omega, by rw [List.length_append, List.length_singleton]; omega, by rw [List.length_append]; omega, h.dok.wr (by unfold cntS; omega) (R.encS_len r hval) (R.encS_bytes r hw hmay), ?_, fun i x hx => ?_, fun i x hi hx => ?_, h.blk, h.sup, h.hom, fun i x hx => ?_, ?_, hi, hla, hla0⟩
  · show (D.ws ++ [_]).length = _
    rw [List.length_append, List.length_append, List.length_singleton, List.length_singleton]; omega
  · show (D.ws ++ [_])[i]? = _
    by_cases e : sf + i < al.length
    · rw [List.getElem?_append_left e] at hx
      rw [List.getElem?_append_left (by omega)]
      exact h.wsa i x hx
    · have hl2 := (List.getElem?_eq_some_iff.1 hx).1
      rw [List.length_append, List.length_singleton] at hl2
      have e2 : sf + i = al.length := by omega
      rw [e2, List.getElem?_append_right (Nat.le_refl _), Nat.sub_self] at hx
      obtain rfl : r = x := by simpa using hx
      rw [List.getElem?_append_right (by omega), show i - D.ws.length = 0 by omega, e2]
      rfl
  · rw [List.getElem?_append_left (by omega)] at hx
    exact h.dur i x hi hx
  · by_cases e : i < al.length
    · rw [List.getElem?_append_left e] at hx
      exact h.rcd i x hx
    · have hl2 := (List.getElem?_eq_some_iff.1 hx).1
      rw [List.length_append, List.length_singleton] at hl2
      obtain rfl : i = al.length := by omega
      rw [List.getElem?_append_right (Nat.le_refl _), Nat.sub_self] at hx
      obtain rfl : r = x := by simpa using hx
      exact ⟨hw, hmay, hp.trans hfin, hbd⟩
  · rw [foldS_snoc, h.fold]
    show scStep c.mr s (0 + (al.length : Int)) r = some s'
    rw [show (0 : Int) + al.length = g.fin by omega]; exact hstep
theorem Wt.img (h : Wt c g D al s sf) {b : Int} (h0 : imgS g b = 0) {v : List Int} (hv : v.length = 32) (hvb : Bytes v) :
    Wt c (imgG g b) (D.wr (secN g g.fin).toNat (R.encS (imgR g b v))) (al ++ [imgR g b v]) ⟨s.txs, s.fin, s.come ++ [⟨b, v⟩]⟩ sf := by
  obtain ⟨hm, hb⟩ := imgS_zero h0
  have hi := h.imgs
  refine h.app hm (imgG_ok h.ok h0) rfl rfl rfl (imgR_wf h.ok hb hv hvb) (imgR_may h.ok hb) rfl (scStep_img ⟨rfl, ?_, ?_⟩) ?_ (fun _ => ?_) (fun k => ?_) (by have := h.gc; show b < c.bl; rw [← this]; omega)
  · have := h.gc; rw [← this]; omega
  · by_cases c0 : s.come.length = 0
    · exact .inl c0
    · refine .inr ?_
      have := h.last c0
      show lastB s.come < b; omega
  · show g.imgs + 1 = ((s.come ++ [(⟨b, v⟩ : Im)]).length : Nat); rw [List.length_append, List.length_singleton]; omega
  · show b = lastB (s.come ++ [⟨b, v⟩]); rw [lastB_snoc]
  · exfalso; have k' : (s.come ++ [(⟨b, v⟩ : Im)]).length = 0 := k; rw [List.length_append, List.length_singleton] at k'; omega
theorem Wt.com (h : Wt c g D al s sf) (h0 : moreS g = 0) :
    Wt c (comG g) (D.wr (secN g g.fin).toNat (R.encS (comR g))) (al ++ [comR g]) ⟨s.txs ++ [⟨g.fin, s.come⟩], g.fin + 1, []⟩ sf :=
  h.app h0 (comG_ok h.ok h0) rfl rfl rfl (comR_wf h.ok) (comR_may h.ok) rfl (scStep_com ⟨rfl, h.imgs⟩) rfl (fun k => absurd rfl k) (fun _ => rfl) (by have := h.mc.1; show (0 : Int) < c.bl; omega)
theorem Wt.wr (h : Wt c g D al s sf) {j : Nat} {x : Wr} (hx : D.ws[j]? = some x) : ∃ r, al[sf + j]? = some r ∧ x = ⟨1 + c.bl.toNat + (sf + j), R.encS r⟩ := by
  have hj := (List.getElem?_eq_some_iff.1 hx).1
  have hws := h.wsl
  have hlt : sf + j < al.length := by omega
  refine ⟨al[sf + j], List.getElem?_eq_getElem hlt, ?_⟩
  have := h.wsa j _ (List.getElem?_eq_getElem hlt)
  rw [hx] at this
  exact Option.some.inj this
theorem Wt.settled (h : Wt c g D al s sf) (K : Nat → Bool) {i : Nat} (hi : i < c.lc.toNat) : (∃ r, al[i]? = some r ∧ (i < sf ∨ K (i - sf) = true) ∧ sec (settle K D.ws D.d) (1 + c.bl.toNat + i) = R.encS r) ∨ ((al.length ≤ i ∨ (sf ≤ i ∧ K (i - sf) = false)) ∧ sec (settle K D.ws D.d) (1 + c.bl.toNat + i) = zs 64) := by
  have hsl := h.sl; have hln := h.len; have hws := h.wsl
  rcases setl_sec (K := K) h.dok.dl h.dok.fit (i := 1 + c.bl.toNat + i) (by unfold cntS; omega) D.ws.length (Nat.le_refl _) with ⟨j, x, h1, h2, h3, h4, h5, _⟩ | ⟨h1, h2⟩
  · obtain ⟨r, hr, rfl⟩ := h.wr h3
    have e : sf + j = i := by have : 1 + c.bl.toNat + (sf + j) = 1 + c.bl.toNat + i := h4; omega
    rw [e] at hr
    exact .inl ⟨r, hr, .inr (by rw [← e, Nat.add_sub_cancel_left]; exact h2), h5⟩
  · by_cases c1 : i < sf
    · have hlt : i < al.length := by omega
      exact .inl ⟨al[i], List.getElem?_eq_getElem hlt, .inl c1, h2.trans (h.dur i _ c1 (List.getElem?_eq_getElem hlt))⟩
    · refine .inr ⟨?_, h2.trans (h.blk i (by omega) hi)⟩
      by_cases c2 : al.length ≤ i
      · exact .inl c2
      · refine .inr ⟨by omega, ?_⟩
        cases hK : K (i - sf) with
        | false => rfl
        | true =>
          have hlt : sf + (i - sf) < al.length := by omega
          exact absurd (by show 1 + c.bl.toNat + (sf + (i - sf)) = _; omega) (h1 (i - sf) _ (by omega) hK (h.wsa (i - sf) _ (List.getElem?_eq_getElem hlt)))
theorem Wt.rest (h : Wt c g D al s sf) (K : Nat → Bool) : (⟨settle K D.ws D.d, []⟩ : Dd).Ok (cntS c) ∧ sec (settle K D.ws D.d) 0 = encS (sup1 c) ∧ ∀ b : Nat, b < c.bl.toNat → sec (settle K D.ws D.d) (1 + b) = homeS b (zs 32) := by
  have hoff : ∀ i, i < 1 + c.bl.toNat → sec (settle K D.ws D.d) i = sec D.d i := fun i hi => by
    rcases settle_one h.dok K (i := i) (by unfold cntS; omega) with ⟨x, hx, e, _⟩ | e
    · obtain ⟨j, hj, ex⟩ := List.mem_iff_getElem.1 hx
      obtain ⟨r, _, rfl⟩ := h.wr (j := j) (x := x) (by rw [List.getElem?_eq_getElem hj, ex])
      have : 1 + c.bl.toNat + (sf + j) = i := e
      omega
    · exact e
  exact ⟨⟨h.dok.n1, h.dok.n2, setl_length h.dok.dl h.dok.fit _, setl_bytes h.dok.db h.dok.fit _, Fit.nil _⟩, (hoff 0 (by omega)).trans h.sup, fun b hb => (hoff (1 + b) (by omega)).trans (h.hom b hb)⟩
theorem Wt.fls (h : Wt c g D al s sf) : Wt c g D.fls al s al.length := by
  obtain ⟨a, b, e⟩ := h.rest (fun _ => true)
  refine ⟨h.mc, h.ok, h.gc, h.gt, h.fin, h.len, Nat.le_refl _, a, by rw [Nat.sub_self]; rfl, fun i r hr => ?_, fun i r hi hr => ?_, fun i hi hl => ?_, b, e, h.rcd, h.fold, h.imgs, h.last, h.lst0⟩
  · have := (List.getElem?_eq_some_iff.1 hr).1; omega
  · rcases h.settled (fun _ => true) (i := i) (by have := h.len; omega) with ⟨r', hr', _, e'⟩ | ⟨c', _⟩
    · rw [hr] at hr'; cases hr'; exact e'
    · rcases c' with c' | ⟨_, c'⟩
      · omega
      · cases c'
  · rcases h.settled (fun _ => true) hl with ⟨r', hr', _, _⟩ | ⟨_, e'⟩
    · have := (List.getElem?_eq_some_iff.1 hr').1; omega
    · exact e'
structure Std (K : List Int) (sf n m : Nat) : Prop where
  lo : sf ≤ n
  hi : n ≤ m
  all : ∀ i, sf ≤ i → i < n → ((i - sf : Nat) : Int) ∈ K
  off : n < m → ((n - sf : Nat) : Int) ∉ K
theorem Wt.crash (h : Wt c g D al s sf) {K : List Int} {n : Nat} (hn : Std K sf n al.length) : Lgs c (fun i => sec (D.crs K).d (1 + c.bl.toNat + i)) (aheadT s.txs n) (endT (aheadT s.txs n) 0) ∧ Rv c (fun i => sec (D.crs K).d (1 + c.bl.toNat + i)) (aheadT s.txs n) (endT (aheadT s.txs n) 0) 1 (D.crs K).d := by
  have hb := h.mc.1; have hl := h.mc.2.1
  have hln := h.len
  have hlo := hn.lo; have hhi := hn.hi
  obtain ⟨ra, rb, rc⟩ := h.rest (keepsK K)
  obtain ⟨f1, f2, f3⟩ := foldS_take al.length al rfl s h.fold
  obtain ⟨s', g1, g2, g3⟩ := f3 n hhi
  have hstand : ∀ i, i < n → ∃ r, al[i]? = some r ∧ sec (D.crs K).d (1 + c.bl.toNat + i) = R.encS r := fun i hi => by
    rcases h.settled (keepsK K) (i := i) (by omega) with ⟨r, hr, _, e⟩ | ⟨c', _⟩
    · exact ⟨r, hr, e⟩
    · rcases c' with c' | ⟨c1, c2⟩
      · omega
      · have := hn.all i c1 hi
        unfold keepsK at c2
        simp only [decide_eq_false_iff_not] at c2
        exact absurd this c2
  have hoff : n < c.lc.toNat → sec (D.crs K).d (1 + c.bl.toNat + n) = zs 64 := fun hi => by
    rcases h.settled (keepsK K) (i := n) hi with ⟨r, hr, c', e⟩ | ⟨_, e⟩
    · have hlt := (List.getElem?_eq_some_iff.1 hr).1
      rcases c' with c' | c'
      · omega
      · unfold keepsK at c'
        simp only [decide_eq_true_eq] at c'
        exact absurd c' (hn.off hlt)
    · exact e
  have hrd : ∀ i : Nat, i < c.lc.toNat → (fun j => sec (D.crs K).d (1 + c.bl.toNat + (j - (1 + c.bl.toNat)))) (1 + c.bl + ((i : Int) % c.lc)).toNat = sec (D.crs K).d (1 + c.bl.toNat + i) := fun i hi => by
    show sec _ _ = _
    rw [lg_lap (by omega) (by omega)]
    congr 1; omega
  have hL : Lgs c (fun i => sec (D.crs K).d (1 + c.bl.toNat + i)) (aheadT s.txs n) (endT (aheadT s.txs n) 0) := by
    refine ⟨h.mc, ?_, fun i hi he => ?_, ?_⟩
    · have hlt : (al.take n).length = n := by rw [List.length_take]; omega
      have key : scRun (stS c fun j => sec (D.crs K).d (1 + c.bl.toNat + (j - (1 + c.bl.toNat)))) c.mr c.lc.toNat 0 ⟨[], 0, []⟩ = s' := by
        rw [scRun_fold (al.take n) 0 ⟨[], 0, []⟩ s' c.lc.toNat (by omega) (fun i r hi => ?_) g1, hlt]
        · by_cases ck : n < c.lc.toNat
          · refine scRun_off (st_blank ?_)
            rw [show (0 : Int) + (n : Int) = n by omega]
            exact (hrd n ck).trans (hoff ck)
          · rw [show c.lc.toNat - n = 0 by omega]; rfl
        · have hik : i < n := by have := (List.getElem?_eq_some_iff.1 hi).1; omega
          rw [List.getElem?_take, if_pos hik] at hi
          obtain ⟨r', hr', e⟩ := hstand i hik
          rw [hi] at hr'
          cases hr'
          obtain ⟨a2, a3, a4, a5⟩ := h.rcd i r hi
          have hr : (fun j => sec (D.crs K).d (1 + c.bl.toNat + (j - (1 + c.bl.toNat)))) (1 + c.bl + (0 + (i : Int)) % c.lc).toNat = R.encS r := by
            rw [show (0 : Int) + (i : Int) = i by omega]
            exact (hrd i (by omega)).trans e
          have hd : R.decS ((fun j => sec (D.crs K).d (1 + c.bl.toNat + (j - (1 + c.bl.toNat)))) (1 + c.bl + (0 + (i : Int)) % c.lc).toNat) = (r, 0) := by rw [hr]; exact R.decS_encS r a2 a3
          rw [stS_yes ⟨by rw [hd], by rw [hd]; show r.pos = 0 + (i : Int); omega, by rw [hd]; exact a5⟩, hd]
      rw [key]
      show s' = ⟨aheadT s.txs n, endT (aheadT s.txs n) 0, s'.come⟩
      rw [← g2, ← g3]
    · rcases h.settled (keepsK K) (i := i) hi with ⟨r, hr, _, e⟩ | ⟨_, e⟩
      · have e : sec (D.crs K).d (1 + c.bl.toNat + i) = R.encS r := e
        obtain ⟨a2, a3, a4, _⟩ := h.rcd i r hr
        show (R.decS (sec (D.crs K).d (1 + c.bl.toNat + i))).1.pos < c.lc
        rw [e, R.decS_encS r a2 a3]
        show r.pos < c.lc
        omega
      · have e : sec (D.crs K).d (1 + c.bl.toNat + i) = zs 64 := e
        have he : (R.decS (sec (D.crs K).d (1 + c.bl.toNat + i))).2 = 0 := he
        rw [e] at he
        exact absurd he zs64_no
    · have hp : ∀ t ∈ aheadT s.txs n, 0 ≤ t.p ∧ t.p < n := fun t ht => by
        have hm := List.mem_filter.1 ht
        refine ⟨?_, by simpa using hm.2⟩
        exact foldS_pos al 0 _ s (Int.le_refl _) (fun t ht => (by cases ht)) h.fold t hm.1
      have : ∀ (l : List TX) (e : Int), (∀ t ∈ l, 0 ≤ t.p ∧ t.p < n) → 0 ≤ e ∧ e ≤ n → 0 ≤ endT l e ∧ endT l e ≤ n := fun l => by
        induction l with
        | nil => exact fun e _ he => he
        | cons t l ih => exact fun e ht he => ih (t.p + 1) (fun u hu => ht u (List.mem_cons.2 (.inr hu))) (by have := ht t (List.mem_cons.2 (.inl rfl)); omega)
      have := this _ 0 hp ⟨Int.le_refl _, by omega⟩
      omega
  exact ⟨hL, ⟨ra, fun i hi => rfl, .inl ⟨rb, fun b hb => .inl (rc b hb)⟩⟩⟩
end
end Go.Proofs.YtdadpepfpiimgaaGreatDoor.Q
namespace Go.Proofs.YtdadpepfpiimgaaGreatDoor.Q
open Go.RowKit
abbrev I64 (xs : List Int) : List Value := xs.map fun x => Value.int .i64 x
theorem one_i64 (x : Int) : ∀ u ∈ [Value.int .i64 x], u.oneCell' = true := by simp [Value.oneCell']
theorem tmod_fix (m k : Int) (hk : 0 < k) : ((m.tmod k) + k).tmod k = m % k := by
  have h1 := Int.tmod_lt_of_pos m hk
  have h2 : -k < m.tmod k := by
    have := Int.lt_tmod_of_pos m hk
    omega
  rw [Int.tmod_eq_emod_of_nonneg (by omega), Int.add_emod_right]
  rw [Int.tmod_def, Int.sub_emod, Int.mul_emod_right]
  simp
structure Rsg (ys : List Int) (k : Int) : Prop where
  up : ys.Pairwise (· < ·)
  lo : ∀ y ∈ ys, 0 ≤ y
  hi : ∀ y ∈ ys, y < k
theorem Rsg.nil (k : Int) : Rsg [] k := ⟨List.Pairwise.nil, fun y h => (by cases h), fun y h => (by cases h)⟩
theorem Rsg.more {ys : List Int} {k : Int} (h : Rsg ys k) : Rsg ys (k + 1) := ⟨h.up, h.lo, fun y hy => by have := h.hi y hy; omega⟩
theorem Rsg.snoc {ys : List Int} {k : Int} (h : Rsg ys k) (hk : 0 ≤ k) : Rsg (ys ++ [k]) (k + 1) := by
  refine ⟨List.pairwise_append.2 ⟨h.up, List.pairwise_singleton _ _, fun x hx y hy => ?_⟩, fun y hy => ?_, fun y hy => ?_⟩
  · rcases List.mem_singleton.1 hy with rfl; exact h.hi x hx
  · rcases List.mem_append.1 hy with hy | hy
    · exact h.lo y hy
    · rcases List.mem_singleton.1 hy with rfl; exact hk
  · rcases List.mem_append.1 hy with hy | hy
    · have := h.hi y hy; omega
    · rcases List.mem_singleton.1 hy with rfl; omega
def tcells (a : Option Addr) (n c : Nat) (f : Int) (m : Bool) : List Value := [.slice a n c, .int .u8 f, .bool m]
set_option maxHeartbeats 4000000 in
set_option maxRecDepth 100000 in
theorem set_any (a : Option Addr) (n c : Nat) (f : Int) (m : Bool) (xs : List Int) (g : Sup) (hg : MayC g) (w : World) (hx : IIn w .i64 a n xs) (hn : n ≤ 140737488355328) :
    Calls Tryz.prog 46 #[.agg (tcells a n c f m).toArray, .agg (ccells g).toArray] w fun e w' => ∃ v ys, e = .returned v ∧ w'.ownsRow w.heap.size 3 1 v ys.length (I64 ys) ∧ Rsg ys g.bl ∧ (ys.length : Int) ≤ g.mr ∧ Below w.heap.size w w' := by
  obtain ⟨i0, hi, hz0, hz1, hz2⟩ := info_parts info3
  obtain ⟨w0, hw0⟩ : ∃ x, x = (w.alloc (.cells (tcells a n c f m).toArray 127)).alloc (.cells (ccells g).toArray 23) := ⟨_, rfl⟩
  have ew := hw0.symm
  have B0 : Hid (Below w.heap.size w w0) := by rw [hw0]; exact below_then (below_alloc w _) (below_alloc _ _)
  have T0 : Hid (LAt 127 w0 w.heap.size (tcells a n c f m)) := by rw [hw0]; exact LAt.later (LAt.new 127 w _) (below_alloc _ _)
  have C0 : Hid (CAt w0 (w.heap.size + 1) g) := by
    have := LAt.new 23 (w.alloc (.cells (tcells a n c f m).toArray 127)) (ccells g)
    rw [World.size_alloc] at this
    rw [hw0]; exact this
  have HX : Hid (IIn w .i64 a n xs) := hx
  have HG : Hid (MayC g) := hg
  have hb1 := hg.1.1
  have hb2 := hg.1.2
  have hm1 := hg.2.2.1.1
  have hm2 := hg.2.2.1.2.1
  clear hw0 hx hg
  go_enter Tryz.func46, Tryz.ntmps46
  go_wp2
  clear ew
  go_loopw [5, 6] (fun v b wr => ∃ (k l : Nat) (ys : List Int), (k : Int) ≤ g.bl ∧ b = .int .i64 k ∧ ys.length = l ∧ (l : Int) ≤ g.mr ∧ Hid (Rsg ys k) ∧ Hid (wr.ownsRow w0.heap.size 3 1 v l (I64 ys)) ∧ Hid (Below w0.heap.size w0 wr)) (fun _ b _ => 64 - (intOf b).toNat)
  case atStart => exact ⟨0, 0, [], by omega, rfl, rfl, by omega, Rsg.nil _, World.ownsRow_nil _ _ _ _, Below.refl _ _⟩
  case round =>
    obtain ⟨k, l, ys, hk, rfl, hl, hlm, HR, HO, HB⟩ := hrel
    obtain ⟨q, cap, rfl, -, -⟩ := own_slice HO.out
    have c0 := CAt.c0 (LAt.later C0.out HB.out)
    have c2 := CAt.c2 (LAt.later C0.out HB.out)
    have HL : Hid (ys.length = l) := hl
    clear hl
    by_cases hlt : (k : Int) < g.bl
    · by_cases hfull : (l : Int) < g.mr
      · go_wp2
        go_loopw [5, 7] (fun v i w3 => ∃ j : Nat, j ≤ n ∧ i = .int .i64 j ∧ v = .slice q l cap ∧ Hid (Below wr.heap.size wr w3)) (fun _ i _ => n - (intOf i).toNat)
        case atStart => exact ⟨0, Nat.zero_le _, rfl, rfl, Below.refl _ _⟩
        case round =>
          obtain ⟨j, hj, rfl, rfl, HD⟩ := hrel
          have BD : Hid (Below w0.heap.size w0 wr) := below_then HB.out HD.out
          have t0 : wr.cell? ⟨w.heap.size, 0, none⟩ = some (.slice a n c) := LAt.cell (LAt.later T0.out BD.out) 0
          by_cases hjn : j < n
          · have hjx : j < xs.length := by rw [HX.out.len]; exact hjn
            obtain ⟨ab, ao, rfl, hcs⟩ := HX.out.cells (by omega)
            have HC : Hid (∀ w', Below wr.heap.size wr w' → w'.cell? ⟨w.heap.size, 0, none⟩ = some (.slice (some ⟨ab, ao, none⟩) n c) ∧ w'.cell? ⟨ab, ao + j, none⟩ = some (.int .i64 xs[j]) ∧ w'.cell? ⟨w.heap.size + 1, 0, none⟩ = some (.int .i64 g.bl)) := fun w' hb => by
              have hb' := below_then BD.out hb
              refine ⟨LAt.cell (LAt.later T0.out hb') 0, ?_, CAt.c0 (LAt.later C0.out hb')⟩
              have hbw := below_then B0.out hb'
              rw [hbw.cell (p := ⟨ab, ao + j, none⟩) (World.block_lt_of_cell? w _ (hcs j hjx))]
              exact hcs j hjx
            have HO3 : Hid (wr.ownsRow w0.heap.size 3 1 (.slice q l cap) l (I64 ys)) := own_later HO.out HD.out
            obtain ⟨x, hx⟩ : ∃ x, x = xs[j] := ⟨_, rfl⟩
            rw [← hx] at HC
            have hr1 : -g.bl < x.tmod g.bl ∧ x.tmod g.bl < g.bl := ⟨Int.lt_tmod_of_pos x (by omega), Int.tmod_lt_of_pos x (by omega)⟩
            have hr2 : (x.tmod g.bl + g.bl).tmod g.bl = x % g.bl := tmod_fix x g.bl (by omega)
            have hne : ¬ g.bl = 0 := by omega
            have k1 : IntKind.i64.wrap (x.tmod g.bl) = x.tmod g.bl := by rw [IntKind.wrap_i64]; omega
            have k2 : IntKind.i64.wrap (x.tmod g.bl + g.bl) = x.tmod g.bl + g.bl := by rw [IntKind.wrap_i64]; omega
            have hr3 : 0 ≤ x % g.bl ∧ x % g.bl < g.bl := ⟨Int.emod_nonneg x hne, Int.emod_lt_of_pos x (by omega)⟩
            have k3 : IntKind.i64.wrap (x % g.bl) = x % g.bl := by rw [IntKind.wrap_i64]; omega
            clear hx hcs
            go_wp2_with fail
            refine wp_region_noPanic ?_
            refine wp_region_held_drew (S := fun w' => Below wr.heap.size wr w') (by kernel_rfl) (below_drawn 1) (fun hHeld => ?_)
            have D3 : Hid (Below wr.heap.size wr wr.drew) := hHeld
            generalize wr.drew = wd at *
            refine tk 0 hHeld ?_
            refine tkl 1 hHeld (fun _ s => (HC.out _ s).1) ?_
            refine tk 2 hHeld ?_
            refine tk 3 hHeld ?_
            refine tkl 4 hHeld (fun _ s => (HC.out _ s).2.1) ?_
            refine tk 5 hHeld ?_
            refine tkl 6 hHeld (fun _ s => (HC.out _ s).2.2) ?_
            refine tk 7 hHeld ?_
            refine tk 8 hHeld ?_
            refine tkl 9 hHeld (fun _ s => (HC.out _ s).2.2) ?_
            refine tk 10 hHeld ?_
            refine tk 11 hHeld ?_
            refine tkl 12 hHeld (fun _ s => (HC.out _ s).2.2) ?_
            refine tk 13 hHeld ?_
            refine tk 14 hHeld ?_
            refine tk 15 hHeld ?_
            clear hHeld
            refine wpAnyH_done (by kernel_rfl) (NoPanic.normal ?_) _
            have BW : Hid (Below w0.heap.size w0 wd) := below_then BD.out D3.out
            have HOd : Hid (wd.ownsRow w0.heap.size 3 1 (.slice q l cap) l (I64 ys)) := own_later HO3.out D3.out
            have HDd : Hid (_) := below_then HD.out D3.out
            clear HC HO3 k1 k2 hr2 BD D3 t0 hr1
            by_cases hq : x % g.bl = (k : Int)
            · have hqb : (x % g.bl == (k : Int)) = true := by simp [hq]
              have HRk : Hid (Rsg (ys ++ [(k : Int)]) ((k : Int) + 1)) := HR.out.snoc (by omega)
              clear hq hr3 k3 c0 c2
              go_wp2_with (at_builtin; refine wpList_append_lies _ rfl (.tmp 44) (.tmp 46) 40 rfl w0.heap.size 3 i0 (.int .i64 0) 1 8 Tryz.underlying40 hi hz0 hz1 hz2 rfl (by omega) _ l (I64 ys) rfl (HOd.out.alloc _) ⟨_, 0, none⟩ 1 1 [.int .i64 (k : Int)] rfl rfl (cell_one_new _ _ _) (one_i64 _) (by omega) (by unfold maxLen; omega) (by omega) (by have := BW.out.size; simp; omega) _ rfl ?_)
              intro g2 cap2 w2 hown hgrow hat hlt2
              have HO2 : Hid (w2.ownsRow w0.heap.size 3 1 (.slice (some ⟨g2, 0, none⟩) (l + 1) cap2) (l + 1) (I64 (ys ++ [(k : Int)]))) := by
                have e : I64 (ys ++ [(k : Int)]) = I64 ys ++ [Value.int .i64 (k : Int)] := by simp [I64]
                rw [e]
                exact hown
              have HB2 : Hid (Below w0.heap.size w0 w2) := (BW.out.alloc BW.out.size _).grown hgrow (by have := BW.out.size; simp; omega) (fun k hk => (HOd.out.lt k hk).1)
              clear hown hgrow hat hlt2 BW HOd HDd
              go_wp2
              go_roundw
              case rel => exact ⟨k + 1, l + 1, ys ++ [(k : Int)], by omega, by go_num, by rw [List.length_append, HL.out]; rfl, by omega, HRk, HO2, HB2⟩
              case measure => simp [intOf]; omega
            · have hqb : (x % g.bl == (k : Int)) = false := by simp [hq]
              clear hq hr3 k3 c0 c2
              go_wp2
              go_roundw
              case rel => exact ⟨j + 1, by omega, by go_num, rfl, HDd⟩
              case measure => simp [intOf]; omega
          · have BW : Hid (Below w0.heap.size w0 wr) := below_then HB.out HD.out
            have HO3 : Hid (wr.ownsRow w0.heap.size 3 1 (.slice q l cap) l (I64 ys)) := own_later HO.out HD.out
            have HRk : Hid (Rsg ys ((k : Int) + 1)) := HR.out.more
            clear c0 c2
            go_wp2
            go_roundw
            case rel => exact ⟨k + 1, l, ys, by omega, by go_num, HL.out, hlm, HRk, HO3, BW⟩
            case measure => simp [intOf]; omega
      · have HF : Hid (Rsg ys g.bl) := ⟨HR.out.up, HR.out.lo, fun y hy => by have := HR.out.hi y hy; omega⟩
        go_wp2
        go_ret
        exact ⟨_, rfl, ys, by rw [HL.out]; exact own_mono HO.out B0.out.size, HF.out, by rw [HL.out]; exact hlm, below_then B0.out HB.out⟩
    · have HF : Hid (Rsg ys g.bl) := ⟨HR.out.up, HR.out.lo, fun y hy => by have := HR.out.hi y hy; omega⟩
      go_wp2
      go_ret
      exact ⟨_, rfl, ys, by rw [HL.out]; exact own_mono HO.out B0.out.size, HF.out, by rw [HL.out]; exact hlm, below_then B0.out HB.out⟩
end Go.Proofs.YtdadpepfpiimgaaGreatDoor.Q
