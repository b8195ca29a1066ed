/-
  Layer 15: room: a line and locks behind steps as a run has them.
-/
import Derived.Test.YtkgjmejpbklabaaGreatN21
import Derived.BigRegion
namespace Go.Proofs.YtkgjmejpbklabaaGreat
open Go.RowKit
open M (Ad wt it)
open K (Lk tix qS)
/-- a step as it lies -/
structure StV where
  kd : Int
  p : Option Addr
  m : Nat
  c : Nat
  N : Int
abbrev stcells (o : StV) : Array Value := #[.int .i64 o.kd, .slice o.p o.m o.c, .int .i64 o.N]
structure StOk (w : World) (o : StV) (xs : List Int) : Prop where
  i : B.IIn w o.p o.m xs
  mm : o.m + 80 ≤ 17592186044416
theorem StOk.later {w w' : World} {o : StV} {xs : List Int} (h : StOk w o xs) (hb : RowKit.Below w.heap.size w w') : StOk w' o xs := ⟨h.i.later hb, h.mm⟩
structure StIn (w : World) (p : Option Addr) (n : Nat) (f : Nat → StV) (g : Nat → List Int) : Prop where
  cells : 0 < n → ∃ b o, p = some ⟨b, o, none⟩ ∧ ∀ i, i < n → w.rangeAt b (o + i * 3) (stcells (f i)).toList
  each : ∀ i, i < n → StOk w (f i) (g i)
theorem StIn.later {w w' : World} {p : Option Addr} {n : Nat} {f : Nat → StV} {g : Nat → List Int} (h : StIn w p n f g) (hb : RowKit.Below w.heap.size w w') : StIn w' p n f g := by
  refine ⟨fun h0 => ?_, fun i hi => (h.each i hi).later hb⟩
  obtain ⟨b, o, rfl, hc⟩ := h.cells h0
  refine ⟨b, o, rfl, fun i hi j u hj => ?_⟩
  have := hc i hi j u hj
  exact (hb.cell (p := ⟨b, o + i * 3 + j, none⟩) (World.block_lt_of_cell? w _ this)).trans this
/-- the N-th of K -/
theorem pickN (x : Int) {K : Nat} (hK : 0 < K) (hk : K ≤ 1000) : ∃ k : Nat, k < K ∧ wrap64 (x.tmod K + K) = x.tmod K + K ∧ (x.tmod K + K).tmod K = (k : Int) := by
  have h1 := Int.tmod_lt_of_pos x (show (0 : Int) < (K : Int) by omega)
  have h2 := Int.lt_tmod_of_pos x (show (0 : Int) < (K : Int) by omega)
  refine ⟨((x.tmod K + K).tmod K).toNat, ?_, by unfold wrap64; omega, ?_⟩
  · have h3 := Int.tmod_lt_of_pos (x.tmod K + K) (show (0 : Int) < (K : Int) by omega)
    have h4 := Int.tmod_nonneg (K : Int) (show 0 ≤ x.tmod K + K by omega)
    omega
  · have h4 := Int.tmod_nonneg (K : Int) (show 0 ≤ x.tmod K + K by omega)
    omega
theorem begS_bl (a : Ad) (xs : List Int) : (a.begS xs).bl = a.bl := by unfold Ad.begS; split <;> rfl
theorem entS_bl (a : Ad) : a.entS.bl = a.bl := by unfold Ad.entS; split <;> rfl
theorem appS_bl (a : Ad) (t : Int) : (a.appS t).bl = a.bl := by unfold Ad.appS; split <;> rfl
theorem freS_bl (a : Ad) (t : Int) : (a.freS t).bl = a.bl := by unfold Ad.freS; split <;> rfl
theorem entT_ok {a : Ad} (h : a.entE = 0) : a.entT = a.fT ∧ a.entF = a.fF := ⟨if_pos h, if_pos h⟩
theorem entS_not {a : Ad} (h : ¬ a.entE = 0) : a.entS = a := by unfold Ad.entS; rw [if_neg h]
theorem u64_of {t : Int} (h0 : 0 ≤ t) (h1 : t ≤ 100000) : L.U64 t := uw_iff.2 ⟨h0, by omega⟩
theorem getD_in {l : List Int} {i : Nat} (h : i < l.length) : l.getD i 0 ∈ l := by rw [List.getD, List.getElem?_eq_getElem h]; exact List.getElem_mem _
theorem piece_addr (g : Nat) {c pp n : Nat} (hc : n ≤ c) : ∃ ad : Addr, (if c = pp + 1 then some (⟨g, 0, none⟩ : Addr) else some ⟨g, pp + 1, none⟩) = some ad ∧ (ad = ⟨g, pp + 1, none⟩ ∨ n - (pp + 1) = 0) := by
  by_cases h : c = pp + 1
  · exact ⟨_, if_pos h, .inr (by omega)⟩
  · exact ⟨_, if_neg h, .inl rfl⟩
theorem len_piece {xs : List Value} {n k l : Nat} (h : xs.length = n) (hk : k + l ≤ n) : ((xs.drop k).take l).length = l * 1 := by simp; omega
theorem Rs.more {w0 w : World} {Q R n m : Nat} {a : Ad} {k : Lk} {laid : List Int} {v : Value} (h : Rs w0 w Q R n a k laid m v) : Rs w0 w Q R (n + 1) a k laid m v := by
  obtain ⟨F, G, h1, h2, h3⟩ := h
  exact ⟨F, G, h1, h2, { h3 with rz := { h3.rz with pm := h3.rz.pm.mono (Nat.le_succ n), pk := h3.rz.pk.mono (Nat.le_succ n) } }⟩
theorem results_tmp4 {fn : Func} {t u v x : Tmp} (h : fn.results = #[.tmp t, .tmp u, .tmp v, .tmp x]) (tmps : Array Value) (P : Program) (w : World) : (results fn tmps).run P w = .ok (.tuple #[tmps.getD t undef, tmps.getD u undef, tmps.getD v undef, tmps.getD x undef]) w := by
  simp [results, h]
set_option maxHeartbeats 2000000 in
set_option maxRecDepth 100000 in
theorem room_at {w : World} {bl lc mr hi cl : Int} {p : Option Addr} {len cap : Nat} {f : Nat → StV} {g : Nat → List Int} (hs : StIn w p len f g) (hlen : len ≤ 9223372036854775807) :
    Calls Tryz.prog 13 #[M.cfgV bl lc mr hi cl, .slice p len cap] w fun e w' => (e = .returned (.tuple #[nilq, nilq, .slice none 0 0, .bool false]) ∧ RowKit.Below w.heap.size w w') ∨ ∃ (Q R n m : Nat) (a : Ad) (k : Lk) (laid : List Int) (q : Option Addr) (c : Nat), e = .returned (.tuple #[qp Q, qp R, .slice q m c, .bool true]) ∧ Rs w w' Q R n a k laid m (.slice q m c) ∧ Rm a k laid ∧ a.next ≤ 61 ∧ n ≤ 300 ∧ a.bl = bl := by
  have HSC : Hid (StIn w p len f g) := hs
  clear hs
  by_cases hmay : M.mayC bl lc mr hi cl
  · have HMY : Hid (M.mayC bl lc mr hi cl) := hmay
    obtain ⟨B0, hB0⟩ : ∃ B0 : Nat, bl = (B0 : Int) := ⟨bl.toNat, by have := hmay.1; omega⟩
    have hB1 : 1 ≤ B0 := by have := hmay.1; omega
    have hB64 : B0 ≤ 64 := by have := hmay.2.1; omega
    clear hmay
    subst hB0
    go_enter Tryz.func13, Tryz.ntmps13
    go_wp2_with fail
    refine (M.new_ok _ HMY.out).mono ?_
    rintro e w1 ⟨F, rfl, hp1, hf1, hb1⟩
    have hcB : w1.cell? ⟨w.heap.size, 0, none⟩ = some (.int .i64 (B0 : Int)) := by
      have h1 : (w.alloc (M.cfgO B0 lc mr hi cl)).cell? ⟨w.heap.size, 0, none⟩ = some (.int .i64 (B0 : Int)) := by
        rw [cell_of_row _ w.heap.size 0 _ 27 (0, 0) (heap_alloc_new w _)]; rfl
      exact (hb1.cell (p := ⟨w.heap.size, 0, none⟩) (by simp)).trans h1
    have HP1 : Hid (M.PL w1 F 0 (M.newA (B0 : Int) lc mr hi cl)) := hp1
    have HF1 : Hid (∀ b, F.has b → w.heap.size ≤ b) := fun b hb => by have := hf1 b hb; simp at this; omega
    have HB1 : Hid (RowKit.Below w.heap.size w w1) := below_then (below_alloc w _) hb1
    clear hp1 hf1 hb1
    go_wp2_with fail
    clear hcB
    refine (K.new_ok B0 w1 hB1 hB64).mono ?_
    rintro e w2 ⟨G, rfl, hp2, hf2, hg2, hb2⟩
    have HRS0 : Hid (Rs w w2 F.Q G.Q 0 (M.newA (B0 : Int) lc mr hi cl) ⟨B0, 0, []⟩ [] 0 (.slice none 0 0)) := ⟨F, G, rfl, rfl, {
      rz := {
        bel := below_then HB1.out hb2
        pm := HP1.out.later hb2
        pk := hp2
        ap := fun b hb e => by have h1 := HP1.out.lt hb; have h2 := hf2 b e; omega
        lm := HF1.out
        lk := fun b hb => by have h2 := hf2 b hb; have := HB1.out.size; omega }
      ow := World.ownsRow_nil _ _ _ _
      ln := rfl
      nf := fun g hg => by cases hg }⟩
    have HRM0 : Hid (Rm (M.newA (B0 : Int) lc mr hi cl) ⟨B0, 0, []⟩ []) := Rm.new HMY.out
    obtain ⟨Q, eQ⟩ : ∃ Q, F.Q = Q := ⟨_, rfl⟩
    obtain ⟨R, eR⟩ : ∃ R, G.Q = R := ⟨_, rfl⟩
    rw [eQ, eR] at HRS0 ⊢
    clear hp2 hf2 hg2 hb2 HP1 HF1 HB1 eQ eR
    go_wp2_with fail
    go_loopw [12, 13] (fun v12 v13 W => ∃ (i n m : Nat) (a : Ad) (k : Lk) (laid : List Int) (q : Option Addr) (c : Nat), v12 = .slice q m c ∧ v13 = .int .i64 (i : Int) ∧ i ≤ len ∧ i ≤ 60 ∧ n ≤ 5 * i ∧ a.next ≤ i + 1 ∧ m ≤ i ∧ Hid (Rs w W Q R n a k laid m (.slice q m c)) ∧ Hid (Rm a k laid) ∧ Hid (a.bl = (B0 : Int))) (fun v12 v13 _ => len - (intV v13).toNat)
    case atStart => exact ⟨0, 0, 0, _, _, [], none, 0, rfl, rfl, by omega, by omega, by omega, by show (1 : Int) ≤ _; omega, by omega, HRS0, HRM0, rfl⟩
    case round =>
      clear HRS0 HRM0
      obtain ⟨i, n, m, a, k, laid, q, c, rfl, rfl, hil, hi60, hn, hx, hm, HRS, HRM, HBL⟩ := hrel
      by_cases hi : i < len ∧ i < 60
      · obtain ⟨hi1, hi2⟩ := hi
        obtain ⟨sb, so, esp, hcs⟩ := (HSC.out.later HRS.out.bel).cells (by omega)
        subst esp
        have hst := hcs i hi1
        have HOK : Hid (∀ W, RowKit.Below w.heap.size w W → StOk W (f i) (g i)) := fun W hW => (HSC.out.later hW).each i hi1
        clear hcs
        generalize f i = st at *
        obtain ⟨kd, sp, sm, scp, sN⟩ := st
        have c0 : wr.cell? ⟨sb, so + i * 3, none⟩ = some (.int .i64 kd) := hst 0 _ rfl
        have c1 : wr.cell? ⟨sb, so + i * 3 + 1, none⟩ = some (.slice sp sm scp) := hst 1 _ rfl
        have c2 : wr.cell? ⟨sb, so + i * 3 + 2, none⟩ = some (.int .i64 sN) := hst 2 _ rfl
        clear hst
        go_wp2_with fail
        refine (r_in (HRS.out.later (below_alloc _ _)) (by omega)).mono ?_
        rintro e w3 ⟨qi, ci, rfl, hoi, hrs3, hb3⟩
        have HRS3 : Hid (Rs w w3 Q R n a k laid m (.slice q m c)) := hrs3
        have d0 : w3.cell? ⟨wr.heap.size, 0, none⟩ = some (.int .i64 kd) := (hb3.cell (p := ⟨wr.heap.size, 0, none⟩) (by simp)).trans (by rw [cell_of_row _ wr.heap.size 0 _ 85 (0, 0) (heap_alloc_new wr _)]; rfl)
        have d1 : w3.cell? ⟨wr.heap.size, 1, none⟩ = some (.slice sp sm scp) := (hb3.cell (p := ⟨wr.heap.size, 1, none⟩) (by simp)).trans (by rw [cell_of_row _ wr.heap.size 1 _ 85 (0, 0) (heap_alloc_new wr _)]; rfl)
        have d2 : w3.cell? ⟨wr.heap.size, 2, none⟩ = some (.int .i64 sN) := (hb3.cell (p := ⟨wr.heap.size, 2, none⟩) (by simp)).trans (by rw [cell_of_row _ wr.heap.size 2 _ 85 (0, 0) (heap_alloc_new wr _)]; rfl)
        have HUI : Hid (UIn w3 qi (it a.I).length (it a.I)) := uin_of_own hoi
        have HOK3 : Hid (StOk w3 ⟨kd, sp, sm, scp, sN⟩ (g i)) := HOK.out w3 HRS3.out.bel
        have HIP : Hid (∀ t ∈ it a.I, L.U64 t) := fun t ht => by
          have h1 := HRM.out.pos t (HRM.out.sub t ht)
          have h2 := HRM.out.la.gotN
          exact u64_of (by omega) (by omega)
        have HLP : Hid (∀ t ∈ laid, L.U64 t) := fun t ht => by
          have h1 := HRM.out.pos t ht
          have h2 := HRM.out.la.gotN
          exact u64_of (by omega) (by omega)
        have hLI : (it a.I).length ≤ 100 := by have := HRM.out.la.ilen; simp only [it, List.length_map]; omega
        obtain ⟨Li, eLi⟩ : ∃ Li, (it a.I).length = Li := ⟨_, rfl⟩
        have HLI : Hid ((it a.I).length = Li) := eLi
        rw [eLi] at hLI HUI ⊢
        clear hoi hrs3 hb3 HOK HRS c0 c1 c2 eLi
        generalize wr.heap.size = s14 at *
        by_cases k1 : kd = 1
        · subst k1
          go_wp2_with fail
          refine (r_begin HRS3.out (by omega) (by omega) HOK3.out.i HOK3.out.mm).mono ?_
          rintro e w4 ⟨u, rfl, hrs4⟩
          have HRS4 : Hid (Rs w w4 Q R (n + 1) (a.begS (g i)) k laid m (.slice q m c)) := hrs4
          have HRM4 : Hid (Rm (a.begS (g i)) k laid) := HRM.out.beg _
          have HBL4 : Hid ((a.begS (g i)).bl = (B0 : Int)) := (begS_bl a _).trans HBL.out
          have hx4 := begS_next a (g i)
          clear hrs4 HRS3 HRM HUI d0 d1 d2
          generalize a.begS (g i) = a4 at *
          have hx5 : a4.next ≤ (i : Int) + 1 + 1 := by omega
          go_wp2_with fail
          go_roundw
          case rel => exact ⟨i + 1, n + 1, m, a4, k, laid, q, c, rfl, by go_num, by omega, by omega, by omega, by omega, by omega, HRS4, HRM4, HBL4⟩
          case measure => simp [intV]; omega

        · by_cases k2 : kd = 2
          · subst k2
            go_wp2_with fail
            refine (r_enter HRS3.out (by omega) (by omega)).mono ?_
            rintro e w4 ⟨qf, df, rfl, hof, hrs4⟩
            by_cases hE : a.entE = 0
            · obtain ⟨eT, eF⟩ := entT_ok hE
              rw [hE, eT, eF]
              rw [eF] at hof
              have hW := HRM.out.entW hE
              have hlay := HRM.out.lays hE
              have HRM5 : Hid (Rm a.entS (K.layS k a.fT a.fF) (laid ++ [a.fT])) := HRM.out.ent hE (by omega)
              have hfl : a.fF.length ≤ 1000 := Nat.le_trans HRM.out.la.flen (by omega)
              have hut : L.U64 a.fT := u64_of (by have h1 := hW.2.2.2.1; have h2 := HRM.out.la.got0; have h3 := HRM.out.last; omega) (by have := hW.2.2.2.2; omega)
              have HOF : Hid (w4.ownsRow w3.heap.size 3 1 (.slice qf a.fF.length df) a.fF.length (B.I64 a.fF)) := hof
              have HRS4 : Hid (Rs w w4 Q R (n + 1) a.entS k laid m (.slice q m c)) := hrs4
              have HBL4 : Hid (a.entS.bl = (B0 : Int)) := (entS_bl a).trans HBL.out
              have hx4 := entS_next a
              clear hof hrs4 HRS3 HRM HUI d0 d1 d2 hE eT eF hW
              go_wp2_with fail
              refine (r_lay HRS4.out (by omega) hut HOF.out hfl).mono ?_
              rintro e w5 ⟨rfl, hrs5⟩
              rw [hlay]
              have HRS5 : Hid (Rs w w5 Q R (n + 1 + 1) a.entS (K.layS k a.fT a.fF) laid m (.slice q m c)) := hrs5
              clear hrs5 HRS4 HOF hut hlay
              generalize K.layS k a.fT a.fF = k5 at *
              generalize a.entS = a5 at *
              generalize a.fF = f5 at *
              generalize a.fT = t5 at *
              have hsz : w.heap.size ≤ w5.heap.size := HRS5.out.bel.size
              have HOW5 : Hid (w5.ownsRow w.heap.size 44 1 (.slice q m c) m (U64 laid)) := HRS5.out.own
              go_wp2_with (at_builtin; refine O.wpList_agg2 (w := w5) rfl (.tmp 85) (.tmp 87) O.elU rfl rfl HOW5.out [Value.int .u64 t5] rfl rfl rfl (fun y hy => by simp at hy; rcases hy with rfl; rfl) (by omega) hsz ?_; intro g6 c6 w6 ho hk hv; have HO6 : Hid (w6.ownsRow w.heap.size 44 1 (.slice (some ⟨g6, 0, none⟩) (m + 1) c6) (m + 1) (U64 laid ++ [Value.int .u64 t5])) := ho; have HK6 : Hid (Kept (fun b => (Value.slice q m c).ownBlock = some b) w5 w6) := hk; have HV6 : Hid ((Value.slice q m c).ownBlock = some g6 ∨ w5.heap.size ≤ g6) := hv; clear ho hk hv)
              have HRS6 : Hid (Rs w w6 Q R (n + 1 + 1) a5 k5 (laid ++ [t5]) (m + 1) (.slice (some ⟨g6, 0, none⟩) (m + 1) c6)) := HRS5.out.row HK6.out (by rw [show U64 (laid ++ [t5]) = U64 laid ++ [Value.int .u64 t5] by simp]; exact HO6.out) (by have := HRS5.out.len; simp; omega) (fun g hg => by
                simp only [Value.ownBlock, Option.some.injEq] at hg
                subst hg; exact HV6.out)
              clear HO6 HK6 HV6 HRS5 HOW5
              go_roundw
              case rel => exact ⟨i + 1, n + 1 + 1, m + 1, a5, k5, laid ++ [t5], some ⟨g6, 0, none⟩, c6, rfl, by go_num, by omega, by omega, by omega, by omega, by omega, HRS6, HRM5, HBL4⟩
              case measure => simp [intV]; omega
            · rw [entS_not hE] at hrs4
              have HRS4 : Hid (Rs w w4 Q R (n + 1) a k laid m (.slice q m c)) := hrs4
              have hb1 : (a.entE == 0) = false := by simpa using hE
              clear hrs4 HRS3 HUI d0 d1 d2 hof
              generalize a.entE = E4 at *
              generalize a.entT = T4 at *
              generalize a.entF.length = l4 at *
              go_wp2_with fail
              go_roundw
              case rel => exact ⟨i + 1, n + 1, m, a, k, laid, q, c, rfl, by go_num, by omega, by omega, by omega, by omega, by omega, HRS4, HRM, HBL⟩
              case measure => simp [intV]; omega

          · by_cases k3 : kd = 3
            · subst k3
              by_cases hm0 : 0 < m
              · obtain ⟨gl, cl', el, hcl, hcell, -⟩ := O.own_some HRS3.out.own hm0
                cases el
                obtain ⟨pp, hpm, hw1, hw2⟩ := pickN sN hm0 (by omega)
                have hll := HRS3.out.len
                have hcp : w3.cell? ⟨gl, pp, none⟩ = some (.int .u64 (laid.getD pp 0)) := hcell pp _ (U64_get (by omega))
                have hut := HLP.out _ (getD_in (l := laid) (i := pp) (by omega))
                have HRM4 : Hid (Rm a (K.takS k (laid.getD pp 0)) laid) := HRM.out.tak _
                clear hcell hll
                generalize laid.getD pp 0 = tp at *
                go_wp2_with fail
                clear hw1 hw2 hcp d0 d1 d2
                refine (r_take HRS3.out (by omega) hut).mono ?_
                rintro e w4 ⟨u, rfl, hrs4⟩
                have HRS4 : Hid (Rs w w4 Q R (n + 1) a (K.takS k tp) laid m (.slice (some ⟨gl, 0, none⟩) m c)) := hrs4
                clear hrs4 HRS3 HRM HUI hut
                generalize K.takS k tp = k4 at *
                go_wp2_with fail
                go_roundw
                case rel => exact ⟨i + 1, n + 1, m, a, k4, laid, some ⟨gl, 0, none⟩, c, rfl, by go_num, by omega, by omega, by omega, by omega, by omega, HRS4, HRM4, HBL⟩
                case measure => simp [intV]; omega

              · have HRS4 : Hid (Rs w w3 Q R (n + 1) a k laid m (.slice q m c)) := HRS3.out.more
                clear HRS3 HUI
                go_wp2_with fail
                go_roundw
                case rel => exact ⟨i + 1, n + 1, m, a, k, laid, q, c, rfl, by go_num, by omega, by omega, by omega, by omega, by omega, HRS4, HRM, HBL⟩
                case measure => simp [intV]; omega

            · by_cases k4 : kd = 4
              · subst k4
                by_cases hm0 : 0 < Li
                · obtain ⟨gl, ol, el, hcell⟩ := HUI.out.cells hm0
                  cases el
                  obtain ⟨pp, hpm, hw1, hw2⟩ := pickN sN hm0 (by omega)
                  have hcp := hcell pp hpm
                  have hut := HIP.out _ (getD_in (l := it a.I) (i := pp) (by have := HLI.out; omega))
                  have HRM4 : Hid (Rm (a.appS ((it a.I).getD pp 0)) k laid) := HRM.out.app _
                  have hx4 := appS_next a ((it a.I).getD pp 0)
                  have HBL4 : Hid ((a.appS ((it a.I).getD pp 0)).bl = (B0 : Int)) := (appS_bl a _).trans HBL.out
                  clear hcell
                  generalize (it a.I).getD pp 0 = tp at *
                  go_wp2_with fail
                  clear hw1 hw2 hcp d0 d1 d2
                  refine (r_append HRS3.out (by omega) hut).mono ?_
                  rintro e w4 ⟨u, rfl, hrs4⟩
                  have HRS4 : Hid (Rs w w4 Q R (n + 1) (a.appS tp) k laid m (.slice q m c)) := hrs4
                  clear hrs4 HRS3 HRM HUI hut
                  generalize a.appS tp = a4 at *
                  go_wp2_with fail
                  go_roundw
                  case rel => exact ⟨i + 1, n + 1, m, a4, k, laid, q, c, rfl, by go_num, by omega, by omega, by omega, by omega, by omega, HRS4, HRM4, HBL4⟩
                  case measure => simp [intV]; omega

                · have HRS4 : Hid (Rs w w3 Q R (n + 1) a k laid m (.slice q m c)) := HRS3.out.more
                  clear HRS3 HUI
                  go_wp2_with fail
                  go_roundw
                  case rel => exact ⟨i + 1, n + 1, m, a, k, laid, q, c, rfl, by go_num, by omega, by omega, by omega, by omega, by omega, HRS4, HRM, HBL⟩
                  case measure => simp [intV]; omega

              · by_cases k5 : kd = 5
                · subst k5
                  by_cases hm0 : 0 < Li
                  · obtain ⟨gl, ol, el, hcell⟩ := HUI.out.cells hm0
                    cases el
                    obtain ⟨pp, hpm, hw1, hw2⟩ := pickN sN hm0 (by omega)
                    have hcp := hcell pp hpm
                    have hut := HIP.out _ (getD_in (l := it a.I) (i := pp) (by have := HLI.out; omega))
                    have HRM4 : Hid (Rm (a.donS ((it a.I).getD pp 0)) k laid) := HRM.out.don _
                    have hx4 := (don_same (a := a) ((it a.I).getD pp 0)).2.2.2
                    have HBL4 : Hid ((a.donS ((it a.I).getD pp 0)).bl = (B0 : Int)) := (don_same (a := a) _).2.1.trans HBL.out
                    clear hcell
                    generalize (it a.I).getD pp 0 = tp at *
                    go_wp2_with fail
                    clear hw1 hw2 hcp d0 d1 d2
                    refine (r_done HRS3.out (by omega) (by omega) hut).mono ?_
                    rintro e w4 ⟨u, rfl, hrs4⟩
                    have HRS4 : Hid (Rs w w4 Q R (n + 2) (a.donS tp) k laid m (.slice q m c)) := hrs4
                    clear hrs4 HRS3 HRM HUI hut
                    generalize a.donS tp = a4 at *
                    go_wp2_with fail
                    go_roundw
                    case rel => exact ⟨i + 1, n + 2, m, a4, k, laid, q, c, rfl, by go_num, by omega, by omega, by omega, by omega, by omega, HRS4, HRM4, HBL4⟩
                    case measure => simp [intV]; omega

                  · have HRS4 : Hid (Rs w w3 Q R (n + 1) a k laid m (.slice q m c)) := HRS3.out.more
                    clear HRS3 HUI
                    go_wp2_with fail
                    go_roundw
                    case rel => exact ⟨i + 1, n + 1, m, a, k, laid, q, c, rfl, by go_num, by omega, by omega, by omega, by omega, by omega, HRS4, HRM, HBL⟩
                    case measure => simp [intV]; omega

                · by_cases k6 : kd = 6
                  · subst k6
                    by_cases hm0 : 0 < m
                    · obtain ⟨gl, cl', el, hcl, hcell, -⟩ := O.own_some HRS3.out.own hm0
                      cases el
                      obtain ⟨pp, hpm, hw1, hw2⟩ := pickN sN hm0 (by omega)
                      have hll := HRS3.out.len
                      have hcp : w3.cell? ⟨gl, pp, none⟩ = some (.int .u64 (laid.getD pp 0)) := hcell pp _ (U64_get (by omega))
                      have hut := HLP.out _ (getD_in (l := laid) (i := pp) (by omega))
                      have HRM4 : Hid (Rm (a.donS (laid.getD pp 0)) (K.drpS k (laid.getD pp 0)) (laid.take pp ++ laid.drop (pp + 1))) := HRM.out.drp (by omega)
                      have hx4 := (don_same (a := a) (laid.getD pp 0)).2.2.2
                      have HBL4 : Hid ((a.donS (laid.getD pp 0)).bl = (B0 : Int)) := (don_same (a := a) _).2.1.trans HBL.out
                      have HUL : Hid ((U64 laid).length = m) := by show _ = _; simp [U64, hll]
                      have HLL : Hid (laid.length = m) := hll
                      clear hcell hll
                      generalize laid.getD pp 0 = tp at *
                      go_wp2_with fail
                      clear hw1 hw2 hcp d0 d1 d2
                      refine (r_drop HRS3.out (by omega) hut).mono ?_
                      rintro e w4 ⟨u, rfl, hrs4⟩
                      have HRS4 : Hid (Rs w w4 Q R (n + 1) a (K.drpS k tp) laid m (.slice (some ⟨gl, 0, none⟩) m c)) := hrs4
                      clear hrs4 HRS3 HRM HUI
                      go_wp2_with fail
                      refine (r_done HRS4.out (by omega) (by omega) hut).mono ?_
                      rintro e w6 ⟨u6, rfl, hrs6⟩
                      have HRS6 : Hid (Rs w w6 Q R (n + 1 + 2) (a.donS tp) (K.drpS k tp) laid m (.slice (some ⟨gl, 0, none⟩) m c)) := hrs6
                      have HL6 : Hid (w6.ownsRow w.heap.size 44 1 (.slice (some ⟨gl, 0, none⟩) m c) m (U64 laid)) := HRS6.out.own
                      have hsw : w.heap.size ≤ w6.heap.size := HRS6.out.bel.size
                      clear hrs6 HRS4 hut
                      generalize K.drpS k tp = k4 at *
                      generalize a.donS tp = a4 at *
                      have j1 : (pp : Int) < (m : Int) := by omega
                      have j2 : (pp : Int) ≤ (c : Int) := by omega
                      have j4 : (pp : Int) + 1 ≤ (m : Int) := by omega
                      have j5 : (0 : Int) ≤ (pp : Int) + 1 := by omega
                      have j6 : ((pp : Int) + 1).toNat = pp + 1 := by omega
                      have j7 : IntKind.i64.wrap ((pp : Int) + 1) = (pp : Int) + 1 := wrap_small (by omega) (by omega)
                      have hpm2 : pp + 1 ≤ m := hpm
                      obtain ⟨gla, egl, hgl⟩ := piece_addr (pp := pp) gl hcl
                      have Hgl : Hid (gla = ⟨gl, pp + 1, none⟩ ∨ m - (pp + 1) = 0) := hgl
                      clear hgl
                      go_wp2_with fail
                      refine wp_region_noPanic ?_
                      refine wp_region_held_drew (S := fun w' => RowKit.Below w6.heap.size w6 w') (by kernel_rfl) (below_dr _ _ 1) (fun hHeld => ?_)
                      have HD : Hid (RowKit.Below w6.heap.size w6 w6.drew) := hHeld
                      generalize w6.drew = we at *
                      refine wpAnyH_take (i := 1) (v := ?va1) (by simp; rfl) (by kernel_rfl) (by kernel_rfl) (by kernel_rfl) (fun _ _ _ h => h) (Or.inl ⟨by rfl, ?ya1⟩) hHeld ?ra1
                      case ya1 => intro w hSw; clear hSw; go_simp; with_reducible rfl
                      simp only [Act.put, List.setIfInBounds_toArray, List.set_cons_zero, List.set_cons_succ]
                      refine wpAnyH_take (i := 2) (v := ?va2) (by simp; rfl) (by kernel_rfl) (by kernel_rfl) (by kernel_rfl) (fun _ _ _ h => h) (Or.inl ⟨by rfl, ?ya2⟩) hHeld ?ra2
                      case ya2 => intro w hSw; clear hSw; go_simp; with_reducible rfl
                      simp only [Act.put, List.setIfInBounds_toArray, List.set_cons_zero, List.set_cons_succ]
                      refine wpAnyH_take (i := 3) (v := ?va3) (by simp; rfl) (by kernel_rfl) (by kernel_rfl) (by kernel_rfl) (fun _ _ _ h => h) (Or.inl ⟨by rfl, ?ya3⟩) hHeld ?ra3
                      case ya3 => intro w hSw; clear hSw; go_simp; with_reducible rfl
                      simp only [Act.put, List.setIfInBounds_toArray, List.set_cons_zero, List.set_cons_succ]
                      refine wpAnyH_take (i := 5) (v := ?va4) (by simp; rfl) (by kernel_rfl) (by kernel_rfl) (by kernel_rfl) (fun _ _ _ h => h) (Or.inl ⟨by rfl, ?ya4⟩) hHeld ?ra4
                      case ya4 => intro w hSw; clear hSw; go_simp; with_reducible rfl
                      simp only [Act.put, List.setIfInBounds_toArray, List.set_cons_zero, List.set_cons_succ]
                      refine wpAnyH_take (i := 6) (v := ?va5) (by simp; rfl) (by kernel_rfl) (by kernel_rfl) (by kernel_rfl) (fun _ _ _ h => h) (Or.inl ⟨by rfl, ?ya5⟩) hHeld ?ra5
                      case ya5 => intro w hSw; clear hSw; go_simp; with_reducible rfl
                      simp only [Act.put, List.setIfInBounds_toArray, List.set_cons_zero, List.set_cons_succ]
                      refine wpAnyH_take (i := 7) (v := ?va6) (by simp; rfl) (by kernel_rfl) (by kernel_rfl) (by kernel_rfl) (fun _ _ _ h => h) (Or.inl ⟨by rfl, ?ya6⟩) hHeld ?ra6
                      case ya6 => intro w hSw; clear hSw; go_simp; with_reducible rfl
                      simp only [Act.put, List.setIfInBounds_toArray, List.set_cons_zero, List.set_cons_succ]
                      refine wpAnyH_take (i := 8) (v := ?va7) (by simp; rfl) (by kernel_rfl) (by kernel_rfl) (by kernel_rfl) (fun _ _ _ h => h) (Or.inl ⟨by rfl, ?ya7⟩) hHeld ?ra7
                      case ya7 => intro w hSw; clear hSw; go_simp; with_reducible rfl
                      simp only [Act.put, List.setIfInBounds_toArray, List.set_cons_zero, List.set_cons_succ]
                      refine wpAnyH_ready (rs := [0]) (by kernel_rfl) (by simp) ?_
                      refine AllReadyH.cons (by simp; rfl) (fun Kc hKc => ?_) AllReadyH.nil
                      go_simp
                      have F1 : Hid (O.FR w6 (we.alloc (.cells #[] 44)) w.heap.size 44 1 (.slice (some ⟨we.heap.size, 0, none⟩) 0 0) 0 []) := O.FR.empty 44 1 HD.out hsw
                      refine hKc.out _ _ F1.out.below (fun hHeld => ?_)
                      clear hKc Kc
                      generalize we.alloc (.cells #[] 44) = wea at *
                      generalize we.heap.size = weg at *
                      refine wpAnyH_ready (rs := [4]) (by kernel_rfl) (by simp) ?_
                      refine AllReadyH.cons (by simp; rfl) (fun Kc hKc => ?_) AllReadyH.nil
                      refine O.step_own rfl (.tmp 178) (.tmp 181) O.elU rfl rfl F1.out.own ⟨gl, 0, none⟩ pp c (((U64 laid).drop 0).take pp) rfl (len_piece HUL.out (by omega)) (O.own_piece (O.own_later HL6.out F1.out.below) rfl 0 pp) (O.ones_piece U64_one _ _) (by omega) (Nat.le_trans hsw F1.out.below.size) ?_
                      intro v1 web ho hk hv
                      have F2 : Hid (O.FR w6 web w.heap.size 44 1 v1 (0 + pp) ([] ++ ((U64 laid).drop 0).take pp)) := F1.out.app ho hk hv
                      clear ho hk hv F1
                      refine hKc.out _ _ F2.out.below (fun hHeld => ?_)
                      clear hKc Kc
                      simp only [Act.put, List.setIfInBounds_toArray, List.set_cons_zero, List.set_cons_succ]
                      refine wpAnyH_ready (rs := [9]) (by kernel_rfl) (by simp) ?_
                      refine AllReadyH.cons (by simp; rfl) (fun Kc hKc => ?_) AllReadyH.nil
                      refine O.step_own rfl (.tmp 182) (.tmp 186) O.elU rfl rfl F2.out.own gla (m - (pp + 1)) (c - (pp + 1)) (((U64 laid).drop (pp + 1)).take (m - (pp + 1))) rfl (len_piece HUL.out (by omega)) (O.own_piece2 (O.own_later HL6.out F2.out.below) rfl Hgl.out) (O.ones_piece U64_one _ _) (by omega) (Nat.le_trans hsw F2.out.below.size) ?_
                      intro v2 wec ho hk hv
                      have F3 : Hid (O.FR w6 wec w.heap.size 44 1 v2 (0 + pp + (m - (pp + 1))) ([] ++ ((U64 laid).drop 0).take pp ++ ((U64 laid).drop (pp + 1)).take (m - (pp + 1)))) := F2.out.app ho hk hv
                      clear ho hk hv F2
                      refine hKc.out _ _ F3.out.below (fun hHeld => ?_)
                      clear hKc Kc
                      simp only [Act.put, List.setIfInBounds_toArray, List.set_cons_zero, List.set_cons_succ]
                      refine wpAnyH_take (i := 10) (v := ?va8) (by simp; rfl) (by kernel_rfl) (by kernel_rfl) (by kernel_rfl) (fun _ _ _ h => h) (Or.inl ⟨by rfl, ?ya8⟩) hHeld ?ra8
                      case ya8 => intro w hSw; clear hSw; go_simp; with_reducible rfl
                      simp only [Act.put, List.setIfInBounds_toArray, List.set_cons_zero, List.set_cons_succ]

                      clear hHeld
                      refine wpAnyH_done (by kernel_rfl) (NoPanic.normal ?_) _
                      clear j1 j2 j4 j5 j6 j7 egl Hgl HD
                      have HCT : Hid (U64 (laid.take pp ++ laid.drop (pp + 1)) = [] ++ ((U64 laid).drop 0).take pp ++ ((U64 laid).drop (pp + 1)).take (m - (pp + 1))) := by
                        show _ = _
                        have e1 : ((U64 laid).drop (pp + 1)).take (m - (pp + 1)) = (U64 laid).drop (pp + 1) := List.take_of_length_le (by rw [List.length_drop, HUL.out]; exact Nat.le_refl _)
                        rw [e1]
                        simp [U64]
                      have hm5 : 0 + pp + (m - (pp + 1)) = m - 1 := by omega
                      have HO7 : Hid (wec.ownsRow w.heap.size 44 1 v2 (m - 1) (U64 (laid.take pp ++ laid.drop (pp + 1)))) := by
                        have := F3.out.own
                        rw [hm5] at this
                        rw [HCT.out]
                        exact this
                      have hb6 : RowKit.Below w6.heap.size w6 wec := F3.out.below
                      obtain ⟨q7, c7, e7, -, -⟩ := O.own_form HO7.out
                      subst e7
                      have HRS7 : Hid (Rs w wec Q R (n + 1 + 2) a4 k4 (laid.take pp ++ laid.drop (pp + 1)) (m - 1) (.slice q7 (m - 1) c7)) := HRS6.out.row (Kept.of_below _ hb6) HO7.out (by have := HLL.out; simp; omega) (fun g hg => .inr (F3.out.new g hg))
                      clear hb6 hm5 HO7 HCT F3 HRS6 HL6 HUL hpm2
                      generalize laid.take pp ++ laid.drop (pp + 1) = laid7 at *
                      obtain ⟨m7, em7⟩ : ∃ m7, m - 1 = m7 := ⟨_, rfl⟩
                      have hm7 : m7 ≤ i := by omega
                      rw [em7] at HRS7 ⊢
                      clear em7
                      go_wp2_with fail
                      go_roundw
                      case rel => exact ⟨i + 1, n + 1 + 2, m7, a4, k4, laid7, q7, c7, rfl, by go_num, by omega, by omega, by omega, by omega, by omega, HRS7, HRM4, HBL4⟩
                      case measure => simp [intV]; omega

                    · have HRS4 : Hid (Rs w w3 Q R (n + 1) a k laid m (.slice q m c)) := HRS3.out.more
                      clear HRS3 HUI
                      go_wp2_with fail
                      go_roundw
                      case rel => exact ⟨i + 1, n + 1, m, a, k, laid, q, c, rfl, by go_num, by omega, by omega, by omega, by omega, by omega, HRS4, HRM, HBL⟩
                      case measure => simp [intV]; omega

                  · by_cases k7 : kd = 7
                    · subst k7
                      have HRM4 : Hid (Rm (a.freS sN) k laid) := HRM.out.fre _
                      have hx4 := freS_next a sN
                      have HBL4 : Hid ((a.freS sN).bl = (B0 : Int)) := (freS_bl a _).trans HBL.out
                      go_wp2_with fail
                      refine (r_freed HRS3.out sN).mono ?_
                      rintro e w4 ⟨u, rfl, hrs4⟩
                      have HRS4 : Hid (Rs w w4 Q R (n + 1) (a.freS sN) k laid m (.slice q m c)) := hrs4
                      clear hrs4 HRS3 HRM HUI d0 d1 d2
                      generalize a.freS sN = a4 at *
                      go_wp2_with fail
                      go_roundw
                      case rel => exact ⟨i + 1, n + 1, m, a4, k, laid, q, c, rfl, by go_num, by omega, by omega, by omega, by omega, by omega, HRS4, HRM4, HBL4⟩
                      case measure => simp [intV]; omega

                    · have HRS4 : Hid (Rs w w3 Q R (n + 1) a k laid m (.slice q m c)) := HRS3.out.more
                      have b1 : (kd == 1) = false := by simpa using k1
                      have b2 : (kd == 2) = false := by simpa using k2
                      have b3 : (kd == 3) = false := by simpa using k3
                      have b4 : (kd == 4) = false := by simpa using k4
                      have b5 : (kd == 5) = false := by simpa using k5
                      have b6 : (kd == 6) = false := by simpa using k6
                      have b7 : (kd == 7) = false := by simpa using k7
                      clear HRS3 HUI
                      go_wp2_with fail
                      go_roundw
                      case rel => exact ⟨i + 1, n + 1, m, a, k, laid, q, c, rfl, by go_num, by omega, by omega, by omega, by omega, by omega, HRS4, HRM, HBL⟩
                      case measure => simp [intV]; omega

      · have hni : ¬ ((i : Int) < (len : Int)) ∨ ¬ ((i : Int) < 60) := by
          by_cases h1 : i < len
          · exact .inr (by omega)
          · exact .inl (by omega)
        rcases hni with h1 | h1
        · go_wp2_with fail
          refine bodyPost_ret (results_tmp4 rfl _ _ _) rfl ?_
          exact .inr ⟨Q, R, n, m, a, k, laid, q, c, rfl, HRS.out, HRM.out, by omega, by omega, HBL.out⟩
        · go_wp2_with fail
          all_goals
            refine bodyPost_ret (results_tmp4 rfl _ _ _) rfl ?_
            exact .inr ⟨Q, R, n, m, a, k, laid, q, c, rfl, HRS.out, HRM.out, by omega, by omega, HBL.out⟩
  · have HMY : Hid (¬ M.mayC bl lc mr hi cl) := hmay
    clear hmay
    go_enter Tryz.func13, Tryz.ntmps13
    go_wp2_with fail
    refine (M.new_bad _ HMY.out).mono ?_
    rintro e w1 ⟨rfl, hb1⟩
    have hcB : w1.cell? ⟨w.heap.size, 0, none⟩ = some (.int .i64 bl) := by
      have h1 : (w.alloc (M.cfgO bl lc mr hi cl)).cell? ⟨w.heap.size, 0, none⟩ = some (.int .i64 bl) := by
        rw [cell_of_row _ w.heap.size 0 _ 27 (0, 0) (heap_alloc_new w _)]; rfl
      exact (hb1.cell (p := ⟨w.heap.size, 0, none⟩) (by simp)).trans h1
    have HB1 : Hid (RowKit.Below w.heap.size w w1) := below_then (below_alloc w _) hb1
    clear hb1
    go_wp2_with fail
    clear hcB
    have HCL : Calls Tryz.prog 7 #[.int .i64 bl] w1 fun e w' => ∃ x y, e = .returned (.tuple #[x, .int .i64 y]) ∧ RowKit.Below w.heap.size w w' := by
      by_cases h64 : bl < 1 ∨ 64 < bl
      · refine (K.new_bad bl w1 h64).mono ?_
        rintro e w' ⟨rfl, rfl⟩
        exact ⟨_, _, rfl, HB1.out⟩
      · obtain ⟨B0, rfl⟩ : ∃ B0 : Nat, bl = (B0 : Int) := ⟨bl.toNat, by omega⟩
        refine (K.new_ok B0 w1 (by omega) (by omega)).mono ?_
        rintro e w' ⟨G, rfl, -, -, -, hb2⟩
        exact ⟨_, _, rfl, below_then HB1.out hb2⟩
    refine HCL.mono ?_
    rintro e w2 ⟨x, y, rfl, hb2⟩
    have HB2 : Hid (RowKit.Below w.heap.size w w2) := hb2
    clear hb2 HCL HB1
    go_wp2_with fail
    refine bodyPost_ret (results_tmp4 rfl _ _ _) rfl ?_
    exact .inl ⟨rfl, HB2.out⟩
end Go.Proofs.YtkgjmejpbklabaaGreat
