/-
  Layer 17: the documents cache: how it lies; New, Get, may.
-/
import Derived.Test.YthcpnfelnonhnaaDoorQc
namespace Go.Proofs.YthcpnfelnonhnaaDoor
open Go.RowKit

/-- how the document's cache lies -/
structure RAt (w : World) (R : Nat) (n : Int) (v : Value) (L : List En) (s : Bool) (p : Int) : Prop where
  st : w.heap[R]? = some (.cells #[.int .i64 n, v, .bool s, .int .u64 p] 71 (0, 0))
  row : EOwn 75 w 0 v L
/-- the next position, as the program has it -/
def nxR (s : Bool) (p : Int) : Int := if s = true then p + 1 else 0
section
variable {w w' : World} {R : Nat} {n p : Int} {v : Value} {L : List En} {s : Bool}
theorem RAt.lt (h : RAt w R n v L s p) : R < w.heap.size := (Array.getElem?_eq_some_iff.1 h.st).1
theorem RAt.c0 (h : RAt w R n v L s p) : w.cell? ⟨R, 0, none⟩ = some (.int .i64 n) := by rw [cell_of_row _ R 0 _ 71 (0, 0) h.st]; rfl
theorem RAt.c1 (h : RAt w R n v L s p) : w.cell? ⟨R, 1, none⟩ = some v := by rw [cell_of_row _ R 1 _ 71 (0, 0) h.st]; rfl
theorem RAt.c2 (h : RAt w R n v L s p) : w.cell? ⟨R, 2, none⟩ = some (.bool s) := by rw [cell_of_row _ R 2 _ 71 (0, 0) h.st]; rfl
theorem RAt.c3 (h : RAt w R n v L s p) : w.cell? ⟨R, 3, none⟩ = some (.int .u64 p) := by rw [cell_of_row _ R 3 _ 71 (0, 0) h.st]; rfl
theorem RAt.free (h : RAt w R n v L s p) (o : Nat) : w.frozen? ⟨R, o, none⟩ = false := by simp [World.frozen?, h.st]
theorem RAt.later (h : RAt w R n v L s p) (hb : Below w.heap.size w w') : RAt w' R n v L s p := ⟨(hb.block R h.lt).trans h.st, O.own_later h.row hb⟩
theorem RAt.far {S : Nat → Prop} (h : RAt w R n v L s p) (hk : Kept S w w') (hR : ¬ S R) (hi : ∀ g, v.ownBlock = some g → ¬ S g) : RAt w' R n v L s p := ⟨(hk.block R h.lt hR).trans h.st, O.own_far h.row hk hi⟩
theorem RAt.ne (h : RAt w R n v L s p) : v.ownBlock ≠ some R := O.own_not h.row h.st (by decide)
theorem RAt.ein (h : RAt w R n v L s p) (hw : EnsWf L) : ∃ q c, v = .slice q L.length c ∧ EIn w q L.length L ∧ L.length ≤ c := by
  obtain ⟨q, c, e, hm, hc, _⟩ := EOwn.in h.row hw
  exact ⟨q, c, e, hm, hc⟩
set_option maxHeartbeats 2000000 in
set_option maxRecDepth 100000 in
theorem rnew_at {n : Int} (h1 : 1 ≤ n) (h2 : n ≤ 64) (w : World) : Calls Tryd.prog 6 #[.int .i64 n] w fun e w' => e = .returned (.tuple #[.pointer (some ⟨w.heap.size, 0, none⟩), .int .i64 0]) ∧ RAt w' w.heap.size n (.slice none 0 0) [] false 0 ∧ Below w.heap.size w w' := by
  go_enter Tryd.func6, Tryd.ntmps6
  go_wp2
  go_ret2
  exact ⟨rfl, ⟨heap_alloc_new w _, World.ownsRow_nil _ _ _ _⟩, below_alloc w _⟩
set_option maxHeartbeats 2000000 in
set_option maxRecDepth 100000 in
theorem rnew_no {n : Int} (h : n < 1 ∨ 64 < n) (w : World) : Calls Tryd.prog 6 #[.int .i64 n] w fun e w' => e = .returned (.tuple #[.pointer none, .int .i64 2]) ∧ w' = w := by
  go_enter Tryd.func6, Tryd.ntmps6
  by_cases h1 : n < 1
  · go_wp2
    go_ret2
    exact ⟨rfl, rfl⟩
  · have h2 : 64 < n := by omega
    go_wp2
    go_ret2
    exact ⟨rfl, rfl⟩
theorem gt_first {b : Int} {k : Nat} {x : En} (h : ∀ j y, j < k → L[j]? = some y → y.b ≠ b) (hx : L[k]? = some x) (hb : x.b = b) : gtE L b = some x := by
  unfold gtE
  rw [List.find?_eq_some_iff_getElem]
  obtain ⟨hk, e⟩ := List.getElem?_eq_some_iff.1 hx
  refine ⟨by simpa using hb, k, hk, e, fun j hj => ?_⟩
  have := h j L[j] hj (List.getElem?_eq_getElem (by omega))
  simpa using this
theorem gt_never {b : Int} (h : ∀ j y, j < L.length → L[j]? = some y → y.b ≠ b) : gtE L b = none := by
  unfold gtE
  rw [List.find?_eq_none]
  intro x hx
  obtain ⟨j, hj⟩ := List.getElem?_of_mem hx
  have := h j x (List.getElem?_eq_some_iff.1 hj).1 hj
  simpa using this
theorem lay0R (w : World) (g : Nat) (i : En) (hi : i.v.length = 32) (h : LAt 75 w g (ecells en0)) : (Instr.storeAt 75 (.pointer (some ⟨g, 0, none⟩)) (.agg (ecells i).toArray)).run Tryd.prog w = .ok () (w.setRow g (ecells i).toArray) :=
  LAt.store (ds := ecells i) h (by rw [etR.size, ecells_len hi]) (by rw [ecells_len hi, ecells_len (zs_len 32)]) (ecells_all i)
set_option maxHeartbeats 2000000 in
set_option maxRecDepth 100000 in
theorem rget_at (h : RAt w R n v L s p) (hw : EnsWf L) (hl : L.length ≤ 64) (b : Int) : Calls Tryd.prog 22 #[.pointer (some ⟨R, 0, none⟩), .int .i64 b] w fun e w' => e = .returned (.tuple #[.agg (ecells (getV L b)).toArray, .bool (getB L b)]) ∧ Below w.heap.size w w' := by
  obtain ⟨w1, hw1⟩ : ∃ w1, w1 = w.alloc (.cells (ecells en0).toArray 75) := ⟨_, rfl⟩
  have HAL : Hid ((Instr.alloc 75 true (.tuple #[])).run Tryd.prog w = .ok (.pointer (some ⟨w.heap.size, 0, none⟩)) w1) := by rw [hw1]; exact allocE etR w
  have B1 : Below w.heap.size w w1 := by rw [hw1]; exact below_alloc w _
  have HV1 : Hid (LAt 75 w1 w.heap.size (ecells en0)) := by rw [hw1]; exact LAt.new _ _ _
  have HA1 : Hid (RAt w1 R n v L s p) := h.later B1
  have HB1 : Hid (Below w.heap.size w w1) := B1
  have HW : Hid (EnsWf L) := hw
  obtain ⟨q, c, rfl, hM, hc⟩ := HA1.out.ein hw
  have HM : Hid (EIn w1 q L.length L) := hM
  have c1 := HA1.out.c1
  clear hw1 B1 h hM hw
  go_enter Tryd.func22, Tryd.ntmps22
  go_wp2_with ((with_reducible refine at_ops ?_); (refine wpList_alloc_is (by rfl) 75 rfl HAL.out ?_); simp only [Act.put, List.setIfInBounds_toArray, List.set_cons_zero, List.set_cons_succ])
  go_loopw [6] (fun v W => ∃ k : Nat, v = .int .i64 (k : Int) ∧ k ≤ L.length ∧ W = w1 ∧ Hid (∀ j y, j < k → L[j]? = some y → y.b ≠ b)) (fun v _ => L.length - (intOf v).toNat)
  case atStart => exact ⟨0, rfl, by omega, rfl, (fun j y hj => absurd hj (Nat.not_lt_zero _) : ∀ j y, j < 0 → L[j]? = some y → y.b ≠ b)⟩
  case round =>
    obtain ⟨k, rfl, hk, rfl, HI⟩ := hrel
    by_cases hlt : k < L.length
    · obtain ⟨x, hx, hxw⟩ := HM.out.len_lt hlt
      obtain ⟨b1, o1, rfl, -⟩ := HM.out.cells (by omega)
      have z := EIn.c0 HM.out hx
      have i1 : (k : Int) < (L.length : Int) := by omega
      have HX : Hid (L[k]? = some x) := hx
      have HXL : Hid (x.v.length = 32) := hxw.len
      by_cases hb : x.b = b
      · have HRV : Hid (getV L b = x ∧ getB L b = true) := by
          have e := gt_first HI.out hx hb
          exact ⟨by unfold getV; rw [e]; rfl, by unfold getB; rw [e]; rfl⟩
        have hz : (x.b == b) = true := by rw [beq_iff_eq]; exact hb
        have HLD : Hid ((Instr.loadAt 75 (.pointer (some ⟨b1, o1 + k * 34, none⟩))).run Tryd.prog wr = .ok (.agg (ecells x).toArray) wr) := EIn.load etR HM.out hx
        have HST : Hid ((Instr.storeAt 75 (.pointer (some ⟨w.heap.size, 0, none⟩)) (.agg (ecells x).toArray)).run Tryd.prog wr = .ok () (wr.setRow w.heap.size (ecells x).toArray)) := lay0R wr _ x hxw.len HV1.out
        have HV3 : Hid (LAt 75 (wr.setRow w.heap.size (ecells x).toArray) w.heap.size (ecells x)) := LAt.stored HV1.out _
        have HB3 : Hid (Below w.heap.size w (wr.setRow w.heap.size (ecells x).toArray)) := below_setRow HB1.out (Nat.le_refl _) _
        clear hx hxw hb HI HV1 HB1 HA1 HM
        generalize wr.setRow w.heap.size (ecells x).toArray = w3 at *
        go_wp2_with ((with_reducible refine at_ops ?_); (first | ((refine wpList_load_is (by rfl) 75 rfl rfl HLD.out ?_); simp only [Act.put, List.setIfInBounds_toArray, List.set_cons_zero, List.set_cons_succ]) | ((refine wpList_store_is (by rfl) 75 rfl rfl rfl HST.out ?_); simp only [Act.put])))
        (try simp only [Exit.inBlock, Exit.then])
        exact bodyPost_ret (results_ent Tryd.results22 _ _ w.heap.size 75 _ _ (by rfl) HV3.out etR.un (isRowS _) (by rw [etR.size, ecells_len HXL.out])) rfl ⟨by rw [HRV.out.1, HRV.out.2]; rfl, HB3.out⟩
      · have hz : (x.b == b) = false := by rw [beq_eq_false_iff_ne]; exact hb
        have HI2 : Hid (∀ j y, j < k + 1 → L[j]? = some y → y.b ≠ b) := fun j y hj hy => by
          by_cases e : j = k
          · subst e; have := HX.out; rw [hy] at this; cases this; exact hb
          · exact HI.out j y (by omega) hy
        clear hx hxw hb
        go_wp2_with fail
        go_roundw
        case rel => exact ⟨k + 1, by congr 1, by omega, trivial, HI2⟩
        case measure => simp [intOf]; omega
    · have ek : k = L.length := by omega
      have HRV : Hid (getV L b = en0 ∧ getB L b = false) := by
        have e := gt_never (L := L) (b := b) (fun j y hj => HI.out j y (by omega))
        exact ⟨by unfold getV; rw [e]; rfl, by unfold getB; rw [e]; rfl⟩
      have HBV : Hid ((Instr.build 75 #[]).run Tryd.prog wr = .ok (.agg (ecells en0).toArray) wr) := buildE0 etR wr
      have HST : Hid ((Instr.storeAt 75 (.pointer (some ⟨w.heap.size, 0, none⟩)) (.agg (ecells en0).toArray)).run Tryd.prog wr = .ok () (wr.setRow w.heap.size (ecells en0).toArray)) := lay0R wr _ en0 (zs_len 32) HV1.out
      have HV3 : Hid (LAt 75 (wr.setRow w.heap.size (ecells en0).toArray) w.heap.size (ecells en0)) := LAt.stored HV1.out _
      have HB3 : Hid (Below w.heap.size w (wr.setRow w.heap.size (ecells en0).toArray)) := below_setRow HB1.out (Nat.le_refl _) _
      clear HI HV1 HB1 HA1 HM ek
      generalize wr.setRow w.heap.size (ecells en0).toArray = w3 at *
      go_wp2_with ((with_reducible refine at_ops ?_); (first | ((refine wpList_build_is (vs := []) (by rfl) 75 rfl (by rfl) HBV.out ?_); simp only [Act.put, List.setIfInBounds_toArray, List.set_cons_zero, List.set_cons_succ]) | ((refine wpList_store_is (by rfl) 75 rfl rfl rfl HST.out ?_); simp only [Act.put])))
      (try simp only [Exit.inBlock, Exit.then])
      exact bodyPost_ret (results_ent Tryd.results22 _ _ w.heap.size 75 _ _ (by rfl) HV3.out etR.un (isRowS _) (by rw [etR.size, ecells_len (zs_len 32)])) rfl ⟨by rw [HRV.out.1, HRV.out.2]; rfl, HB3.out⟩
theorem any_no {n : Int} {l : List Im} {m : Nat} (hm : l.length = m) (h : ∀ j y, j < m → l[j]? = some y → outI n y = false) : l.any (outI n) = false := by
  rw [List.any_eq_false]
  intro x hx
  obtain ⟨j, hj⟩ := List.getElem?_of_mem hx
  have := h j x (by rw [← hm]; exact (List.getElem?_eq_some_iff.1 hj).1) hj
  simp [this]
theorem any_yes {n : Int} {l : List Im} {x : Im} {k : Nat} (hx : l[k]? = some x) (h : outI n x = true) : l.any (outI n) = true := List.any_eq_true.2 ⟨x, List.mem_of_getElem? hx, h⟩
set_option maxHeartbeats 2000000 in
set_option maxRecDepth 100000 in
theorem rmay_at (h : RAt w R n v L s p) (hp : 0 ≤ p ∧ p ≤ 4611686018427387904) {q : Option Addr} {m c : Nat} {l : List Im} (hM : MIn w q m l) (hm : m ≤ 140737488355328) {ps : Int} (hps : 0 ≤ ps ∧ ps < 18446744073709551616) : Calls Tryd.prog 35 #[.pointer (some ⟨R, 0, none⟩), .slice q m c, .int .u64 ps] w fun e w' => e = .returned (.int .i64 (putE n (nxR s p) l ps)) ∧ Below w.heap.size w w' := by
  have HM : Hid (MIn w q m l) := hM
  have HL : Hid (l.length = m) := hM.len
  have HC : Hid (∀ W, Below w.heap.size w W → W.cell? ⟨R, 0, none⟩ = some (.int .i64 n) ∧ W.cell? ⟨R, 2, none⟩ = some (.bool s) ∧ W.cell? ⟨R, 3, none⟩ = some (.int .u64 p)) := fun W hW => ⟨(h.later hW).c0, (h.later hW).c2, (h.later hW).c3⟩
  have hp0 := hp.1; have hp1 := hp.2; have hps0 := hps.1; have hps1 := hps.2
  clear h hM hp hps
  go_enter Tryd.func35, Tryd.ntmps35
  go_wp2_with fail
  go_loopw [7] (fun v W => ∃ k : Nat, v = .int .i64 (k : Int) ∧ k ≤ m ∧ Hid (Below w.heap.size w W) ∧ Hid (∀ j y, j < k → l[j]? = some y → outI n y = false)) (fun v _ => m - (intOf v).toNat)
  case atStart => exact ⟨0, rfl, by omega, Below.refl _ _, (fun j y hj => absurd hj (Nat.not_lt_zero _) : ∀ j y, j < 0 → l[j]? = some y → outI n y = false)⟩
  case round =>
    obtain ⟨k, rfl, hk, HB, HI⟩ := hrel
    by_cases hlt : k < m
    · obtain ⟨x, hx⟩ : ∃ x, l[k]? = some x := ⟨_, List.getElem?_eq_getElem (by rw [HL.out]; omega)⟩
      obtain ⟨b1, o1, rfl, -⟩ := HM.out.cells (by omega)
      have z0 : ∀ t, (wr.drewN t).cell? ⟨b1, o1 + k * 33, none⟩ = some (.int .i64 x.b) := fun t => (HM.out.later HB.out).c0 hx
      have y0 : ∀ t, (wr.drewN t).cell? ⟨R, 0, none⟩ = some (.int .i64 n) := fun t => (HC.out wr HB.out).1
      have HB2 : Hid (∀ t, Below w.heap.size w (wr.drewN t)) := fun t => below_then HB.out (below_drawn _)
      have i1 : (k : Int) < (m : Int) := by omega
      have HX : Hid (l[k]? = some x) := hx
      clear hx
      by_cases h1 : x.b < 0
      · have d1 : decide (x.b < 0) = true := decide_eq_true h1
        have HE : Hid (putE n (nxR s p) l ps = 51) := putE_block (any_yes HX.out (by simp [outI, h1]))
        clear h1
        go_wp2_with fail
        go_quiet (fail)
        go_wp2
        go_ret
        exact ⟨by rw [HE.out]; rfl, HB2.out _⟩
      · have d1 : decide (x.b < 0) = false := decide_eq_false h1
        by_cases h2 : n ≤ x.b
        · have d2 : decide (n ≤ x.b) = true := decide_eq_true h2
          have HE : Hid (putE n (nxR s p) l ps = 51) := putE_block (any_yes HX.out (by simp [outI, h2]))
          clear h1 h2
          go_wp2_with fail
          go_quiet (fail)
          go_wp2
          go_ret
          exact ⟨by rw [HE.out]; rfl, HB2.out _⟩
        · have d2 : decide (n ≤ x.b) = false := decide_eq_false h2
          have HI2 : Hid (∀ j y, j < k + 1 → l[j]? = some y → outI n y = false) := fun j y hj hy => by
            by_cases e : j = k
            · subst e; have := HX.out; rw [hy] at this; cases this; simp [outI, h1, h2]
            · exact HI.out j y (by omega) hy
          clear h1 h2
          go_wp2_with fail
          go_quiet (fail)
          go_wp2_with fail
          go_roundw
          case rel => exact ⟨k + 1, by congr 1, by omega, HB2.out _, HI2⟩
          case measure => simp [intOf]; omega
    · have HO : Hid (l.any (outI n) = false) := any_no HL.out fun j y hj => HI.out j y (by omega)
      have HBo : Hid (Below w.heap.size w wr) := HB
      clear HI HB hk
      go_wp2_with fail
      clear hlt
      go_loopw [8] (fun v W => ∃ k : Nat, v = .int .i64 ((k : Int) + 1) ∧ k ≤ m ∧ Hid (Below w.heap.size w W) ∧ Hid (∀ j x y, j < k → l[j]? = some x → l[j + 1]? = some y → x.b < y.b)) (fun v _ => m + 2 - (intOf v).toNat)
      case atStart => exact ⟨0, rfl, by omega, HBo, (fun j x y hj => absurd hj (Nat.not_lt_zero _) : ∀ j x y, j < 0 → l[j]? = some x → l[j + 1]? = some y → x.b < y.b)⟩
      case round =>
        obtain ⟨k, rfl, hk, HB, HI⟩ := hrel
        by_cases hlt : (k : Int) + 1 < (m : Int)
        · obtain ⟨x, hx⟩ : ∃ x, l[k]? = some x := ⟨_, List.getElem?_eq_getElem (by rw [HL.out]; omega)⟩
          obtain ⟨y, hy⟩ : ∃ y, l[k + 1]? = some y := ⟨_, List.getElem?_eq_getElem (by rw [HL.out]; omega)⟩
          obtain ⟨b1, o1, rfl, -⟩ := HM.out.cells (by omega)
          have x0d : ∀ t, (wr.drewN t).cell? ⟨b1, o1 + k * 33, none⟩ = some (.int .i64 x.b) := fun t => (HM.out.later HB.out).c0 hx
          have y0d : ∀ t, (wr.drewN t).cell? ⟨b1, o1 + (k + 1) * 33, none⟩ = some (.int .i64 y.b) := fun t => (HM.out.later HB.out).c0 hy
          have i0 : (0 : Int) ≤ (k : Int) + 1 := by omega
          have i1 : (k : Int) < (m : Int) := by omega
          have htn : ((k : Int) + 1).toNat = k + 1 := by omega
          have HX : Hid (l[k]? = some x ∧ l[k + 1]? = some y) := ⟨hx, hy⟩
          have HB2 : Hid (∀ t, Below w.heap.size w (wr.drewN t)) := fun t => below_then HB.out (below_drawn _)
          clear hx hy
          by_cases hle : y.b ≤ x.b
          · have hd : decide (y.b ≤ x.b) = true := decide_eq_true hle
            have HE : Hid (putE n (nxR s p) l ps = 53) := putE_form HO.out (upI_no HX.out.1 HX.out.2 hle)
            clear hle
            go_wp2_with fail
            go_quiet (fail)
            go_wp2
            go_ret
            exact ⟨by rw [HE.out]; rfl, HB2.out _⟩
          · have hd : decide (y.b ≤ x.b) = false := decide_eq_false hle
            have HI2 : Hid (∀ j x y, j < k + 1 → l[j]? = some x → l[j + 1]? = some y → x.b < y.b) := fun j x' y' hj hx' hy' => by
              by_cases e : j = k
              · subst e
                have a := HX.out.1; have b := HX.out.2
                rw [hx'] at a; rw [hy'] at b
                cases a; cases b
                omega
              · exact HI.out j x' y' (by omega) hx' hy'
            clear hle
            go_wp2_with fail
            go_quiet (fail)
            go_wp2_with fail
            go_roundw
            case rel => exact ⟨k + 1, by congr 1, by omega, HB2.out _, HI2⟩
            case measure => simp [intOf]; omega
        · have HU : Hid (upI l = true) := upI_yes fun j x y hx hy => HI.out j x y (by have := (List.getElem?_eq_some_iff.1 hy).1; have := HL.out; omega) hx hy
          have k2 := (HC.out wr HB.out).2.1
          have k3 := (HC.out wr HB.out).2.2
          clear HI
          by_cases h3 : 4611686018427387904 < ps
          · have HE : Hid (putE n (nxR s p) l ps = 30) := putE_ring HO.out HU.out (.inr h3)
            have d3 : decide (4611686018427387904 < ps) = true := decide_eq_true h3
            go_wp2
            go_ret
            exact ⟨by rw [HE.out]; rfl, HB.out⟩
          · have d3 : decide (4611686018427387904 < ps) = false := decide_eq_false h3
            cases s with
            | false =>
              have HE : Hid (putE n (nxR false p) l ps = 0) := putE_ok HO.out HU.out (by simp [nxR]; omega)
              go_wp2
              go_ret
              exact ⟨by rw [HE.out]; rfl, HB.out⟩
            | true =>
              by_cases h4 : ps ≤ p
              · have HE : Hid (putE n (nxR true p) l ps = 30) := putE_ring HO.out HU.out (.inl (by simp [nxR]; omega))
                go_wp2
                go_ret
                exact ⟨by rw [HE.out]; rfl, HB.out⟩
              · have HE : Hid (putE n (nxR true p) l ps = 0) := putE_ok HO.out HU.out (by simp [nxR]; omega)
                go_wp2
                go_ret
                exact ⟨by rw [HE.out]; rfl, HB.out⟩
end
end Go.Proofs.YthcpnfelnonhnaaDoor
