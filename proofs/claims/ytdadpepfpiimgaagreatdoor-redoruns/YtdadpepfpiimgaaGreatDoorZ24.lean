import Derived.Test.YtdadpepfpiimgaaGreatDoorZ23
set_option maxHeartbeats 20000000
set_option maxRecDepth 100000
namespace Go.Proofs.YtdadpepfpiimgaaGreatDoor.Q
open Go.RowKit
section
variable {w0 w w' : World} {X : List Kd} {i j M : Nat}
theorem mem_take_succ {K : List Int} {j : Nat} (hj : j < K.length) (y : Int) : y ∈ K.take (j + 1) ↔ (y ∈ K.take j ∨ K.getD j 0 = y) := by
  rw [List.take_succ_eq_append_getElem hj, List.mem_append, List.mem_singleton, List.getD_eq_getElem?_getD, List.getElem?_eq_getElem hj]
  exact ⟨fun h => h.elim .inl fun e => .inr e.symm, fun h => h.elim .inl fun e => .inr e.symm⟩
set_option maxHeartbeats 20000000 in
set_option maxRecDepth 100000 in
theorem stands_at {R sf : Nat} {vc vm : Value} (hL : LAt 62 w M (mcl R sf vc vm)) (hsr : sf ≤ R) (hR : R ≤ 64) {a : Option Addr} {m cp : Nat} {K : List Int} (hx : JIn w a m K) (hm : m ≤ 140737488355328) : Calls Tryz.prog 19 #[qp M, .slice a m cp] w fun e w' => ∃ n : Nat, e = .returned (.int .i64 n) ∧ Std K sf n R ∧ Below w.heap.size w w' := by
  have HL : Hid (LAt 62 w M (mcl R sf vc vm)) := hL
  have HX : Hid (JIn w a m K) := hx
  have c1 := mc1 hL
  have hMlt : M < w.heap.size := (Array.getElem?_eq_some_iff.1 hL).1
  clear hL hx
  go_enter Tryz.func19, Tryz.ntmps19
  go_wp2_with fail
  clear c1
  go_loopw [5] (fun nv wr => ∃ n : Nat, nv = .int .i64 n ∧ sf ≤ n ∧ n ≤ R ∧ Hid (∀ i, sf ≤ i → i < n → ((i - sf : Nat) : Int) ∈ K) ∧ Hid (Below w.heap.size w wr)) (fun nv _ => R - (intOf nv).toNat)
  case atStart => exact ⟨sf, rfl, Nat.le_refl _, hsr, fun i h1 h2 => (by omega), Below.refl _ _⟩
  case round =>
    obtain ⟨n, rfl, h1, h2, HA, HB⟩ := hrel
    have c0 := mc0 (LAt.later HL.out HB.out)
    by_cases hlt : n < R
    · have n1 : (n : Int) < (R : Int) := by omega
      go_wp2_with fail
      clear c0
      go_loopw [6, 7] (fun kv jv w3 => ∃ (j : Nat) (b : Bool), j ≤ m ∧ jv = .int .i64 j ∧ kv = .bool b ∧ Hid (b = true ↔ ((n - sf : Nat) : Int) ∈ K.take j) ∧ Hid (Below w.heap.size w w3)) (fun _ jv _ => m - (intOf jv).toNat)
      case atStart => exact ⟨0, false, Nat.zero_le _, rfl, rfl, (by show _ ↔ _; simp), HB⟩
      case round =>
        obtain ⟨j, b, hj, rfl, rfl, HI, HB3⟩ := hrel
        by_cases hjm : j < m
        · have j1 : (j : Int) < (m : Int) := by omega
          have j0 : (0 : Int) ≤ (j : Int) := by omega
          have hjK : j < K.length := by rw [HX.out.len]; exact hjm
          obtain ⟨kb', ko, rfl, hcs⟩ := HX.out.cells (by omega)
          obtain ⟨x, hxx⟩ : ∃ x, K.getD j 0 = x := ⟨_, rfl⟩
          have hcj := hcs j hjm
          rw [hxx] at hcj
          have HC : Hid (∀ W, Below w.heap.size w W → W.cell? ⟨kb', ko + j, none⟩ = some (.int .i64 x) ∧ W.cell? ⟨M, 1, none⟩ = some (.int .i64 sf)) := fun W hb => ⟨by rw [hb.cell (p := ⟨kb', ko + j, none⟩) (World.block_lt_of_cell? w _ hcj)]; exact hcj, mc1 (LAt.later HL.out hb)⟩
          have hms := mem_take_succ hjK ((n - sf : Nat) : Int)
          rw [hxx] at hms
          have HMS : Hid (_) := hms
          clear hcs hcj hms hxx hjK
          cases b
          · have k1 : IntKind.i64.wrap ((n : Int) - (sf : Int)) = (n : Int) - (sf : Int) := by rw [IntKind.wrap_i64]; omega
            go_wp2_with fail
            refine wp_region_noPanic ?_
            refine wp_region_held_drew (S := fun W => Below w.heap.size w W) (by kernel_rfl) (below_then HB3.out (below_drawn 1)) (fun hHeld => ?_)
            generalize wr.drew = wd at *
            refine tk 0 hHeld ?_
            refine tk 1 hHeld ?_
            refine tk 2 hHeld ?_
            refine tk 3 hHeld ?_
            refine tk 4 hHeld ?_
            refine tkl 5 hHeld (fun _ s => (HC.out _ s).1) ?_
            refine tk 6 hHeld ?_
            refine tk 7 hHeld ?_
            refine tk 8 hHeld ?_
            refine tk 9 hHeld ?_
            refine tkl 10 hHeld (fun _ s => (HC.out _ s).2) ?_
            refine tk 11 hHeld ?_
            refine tk 12 hHeld ?_
            refine tk 13 hHeld ?_
            refine tk 14 hHeld ?_
            have HBd : Hid (Below w.heap.size w wd) := hHeld
            clear hHeld
            refine wpAnyH_done (by kernel_rfl) (NoPanic.normal ?_) _
            have HI2 : Hid ((x == (n : Int) - (sf : Int)) = true ↔ ((n - sf : Nat) : Int) ∈ K.take (j + 1)) := by
              show _ ↔ _
              have := HI.out
              rw [HMS.out, beq_iff_eq]
              refine ⟨fun e => .inr (by omega), fun h => h.elim (fun h => absurd (this.2 h) (by simp)) fun e => by omega⟩
            clear HC k1
            go_wp2_with fail
            go_roundw
            case rel => exact ⟨j + 1, _, by omega, by congr 1, rfl, HI2, HBd⟩
            case measure => simp [intOf]; omega
          · go_wp2_with fail
            refine wp_region_noPanic ?_
            refine wp_region_held_drew (S := fun W => Below w.heap.size w W) (by kernel_rfl) (below_then HB3.out (below_drawn 1)) (fun hHeld => ?_)
            generalize wr.drew = wd at *
            refine tk 0 hHeld ?_
            refine tk 1 hHeld ?_
            refine tks 2 hHeld ?_
            refine tks 3 hHeld ?_
            refine tks 4 hHeld ?_
            refine tks 5 hHeld ?_
            refine tks 6 hHeld ?_
            refine tks 7 hHeld ?_
            refine tks 8 hHeld ?_
            refine tks 9 hHeld ?_
            refine tks 10 hHeld ?_
            refine tks 11 hHeld ?_
            refine tks 12 hHeld ?_
            refine tk 13 hHeld ?_
            refine tk 14 hHeld ?_
            have HBd : Hid (Below w.heap.size w wd) := hHeld
            clear hHeld
            refine wpAnyH_done (by kernel_rfl) (NoPanic.normal ?_) _
            have HI2 : Hid (true = true ↔ ((n - sf : Nat) : Int) ∈ K.take (j + 1)) := by
              show _ ↔ _
              have := HI.out
              rw [HMS.out]
              exact ⟨fun _ => .inl (this.1 (by trivial)), fun _ => rfl⟩
            clear HC
            go_wp2_with fail
            go_roundw
            case rel => exact ⟨j + 1, _, by omega, by congr 1, rfl, HI2, HBd⟩
            case measure => simp [intOf]; omega
        · have hje : j = m := by omega
          have HK : Hid (b = true ↔ ((n - sf : Nat) : Int) ∈ K) := by
            have := HI.out
            rw [hje, List.take_of_length_le (by rw [HX.out.len]; exact Nat.le_refl _)] at this
            exact this
          cases b
          · have HZ : Hid (Std K sf n R) := ⟨h1, h2, HA.out, fun _ h => by have := HK.out.2 h; cases this⟩
            clear HI HK HA
            go_wp2_with fail
            go_ret
            exact ⟨n, rfl, HZ.out, HB3.out⟩
          · have HA2 : Hid (∀ i, sf ≤ i → i < n + 1 → ((i - sf : Nat) : Int) ∈ K) := fun i a b => by
              rcases Nat.lt_or_ge i n with h | h
              · exact HA.out i a h
              · obtain rfl : i = n := by omega
                exact HK.out.1 rfl
            clear HI HK HA
            go_wp2_with fail
            go_roundw
            case rel => exact ⟨n + 1, by congr 1, by omega, by omega, HA2, HB3⟩
            case measure => simp [intOf]; omega
    · have HZ : Hid (Std K sf n R) := ⟨h1, h2, HA.out, fun h => (by omega)⟩
      have n1 : ¬ (n : Int) < (R : Int) := by omega
      clear HA
      go_wp2_with fail
      go_ret
      exact ⟨n, rfl, HZ.out, HB.out⟩
theorem aheadT_snoc (l : List TX) (t : TX) (n : Int) : (aheadT (l ++ [t]) n).length = (aheadT l n).length + (if t.p < n then 1 else 0) := by
  unfold aheadT
  rw [List.filter_append, List.length_append]
  by_cases c : t.p < n
  · rw [if_pos c, List.filter_cons_of_pos (by simpa using c)]; rfl
  · rw [if_neg c, List.filter_cons_of_neg (by simpa using c)]; rfl
set_option maxHeartbeats 20000000 in
set_option maxRecDepth 100000 in
theorem finds_at {R sf : Int} {vc vm : Value} {tx : List TX} (h : Fz w0 w X) (hi : X[i]? = some (kb M 62 (mcl R sf vc vm))) (hj : X[j]? = some (ki vc (tx.map (·.p)))) (htl : tx.length ≤ 1000) (n : Int) : Calls Tryz.prog 20 #[qp M, .int .i64 n] w fun e w' => e = .returned (.int .i64 ((aheadT tx n).length : Nat)) ∧ w' = w := by
  obtain ⟨t, G, rfl, ha, -, -⟩ := h.at hj
  obtain ⟨q, cap, rfl, -, -⟩ := own_slice (show w.ownsRow 0 3 1 vc (tx.map (·.p)).length _ from ha)
  have HF : Hid (Fz w0 w X) := h
  have c2 := mc2 (h.atb hi).1
  have hll : (tx.map (·.p)).length = tx.length := List.length_map _
  rw [hll] at c2
  clear ha h
  go_enter Tryz.func20, Tryz.ntmps20
  go_wp2_with fail
  go_loopw [5, 6] (fun kv iv wr => ∃ r : Nat, r ≤ tx.length ∧ iv = .int .i64 r ∧ kv = .int .i64 ((aheadT (tx.take r) n).length : Nat) ∧ wr = w) (fun _ iv _ => tx.length - (intOf iv).toNat)
  case atStart => exact ⟨0, Nat.zero_le _, rfl, rfl, rfl⟩
  case round =>
    obtain ⟨r, hr, rfl, rfl, hwr⟩ := hrel
    rw [hwr]
    clear hwr
    have hcl : (aheadT (tx.take r) n).length ≤ 1000 := Nat.le_trans (List.length_filter_le _ _) (by rw [List.length_take]; omega)
    by_cases hlt : r < tx.length
    · have r1 : (r : Int) < (tx.length : Int) := by omega
      have r0 : (0 : Int) ≤ (r : Int) := by omega
      obtain ⟨y, hy⟩ : ∃ y, tx[r]? = some y := ⟨_, List.getElem?_eq_getElem hlt⟩
      obtain ⟨qb, rfl⟩ : ∃ b, q = some ⟨b, 0, none⟩ := by
        obtain ⟨t, G, rfl, ha, -, -⟩ := HF.out.at hj
        rcases (show w.ownsRow 0 3 1 (.slice q (tx.map (·.p)).length cap) (tx.map (·.p)).length _ from ha).2 with ⟨_, e⟩ | ⟨b, cap, cur, e, _⟩
        · rw [hll] at e; omega
        · cases e; exact ⟨b, rfl⟩
      have cr := HF.out.intcell hj (k := r) (y := y.p) rfl (by rw [List.getElem?_map, hy]; rfl)
      have HS : Hid ((aheadT (tx.take (r + 1)) n).length = (aheadT (tx.take r) n).length + (if y.p < n then 1 else 0)) := by
        obtain ⟨hk, e⟩ := List.getElem?_eq_some_iff.1 hy
        show _ = _
        rw [List.take_succ_eq_append_getElem hk, e, aheadT_snoc]
      by_cases hyn : y.p < n
      · have HS2 : Hid ((aheadT (tx.take (r + 1)) n).length = (aheadT (tx.take r) n).length + 1) := by show _ = _; rw [HS.out, if_pos hyn]
        have k1 : IntKind.i64.wrap (((aheadT (tx.take r) n).length : Int) + 1) = ((aheadT (tx.take r) n).length : Int) + 1 := by rw [IntKind.wrap_i64]; omega
        clear HS
        go_wp2_with fail
        go_roundw
        case rel => exact ⟨r + 1, by omega, by congr 1, by rw [HS2.out]; rfl, by trivial⟩
        case measure => simp [intOf]; omega
      · have HS2 : Hid ((aheadT (tx.take (r + 1)) n).length = (aheadT (tx.take r) n).length) := by show _ = _; rw [HS.out, if_neg hyn]; rfl
        clear HS
        go_wp2_with fail
        go_roundw
        case rel => exact ⟨r + 1, by omega, by congr 1, by rw [HS2.out], by trivial⟩
        case measure => simp [intOf]; omega
    · have r1 : ¬ (r : Int) < (tx.length : Int) := by omega
      have HS2 : Hid ((aheadT (tx.take r) n).length = (aheadT tx n).length) := by show _ = _; rw [List.take_of_length_le (by omega)]
      go_wp2_with fail
      go_ret
      exact ⟨by rw [HS2.out]; rfl, rfl⟩
end
end Go.Proofs.YtdadpepfpiimgaaGreatDoor.Q
namespace Go.Proofs.YtdadpepfpiimgaaGreatDoor.Q
open Go.RowKit
theorem cutV_home (b : Int) {v : List Int} (h : v.length = 32) : cutV (homeS b v) = v := by
  unfold cutV homeS hbody
  have e : ([72, 79, 77, 69, 1, b] ++ (zs 22 ++ v) ++ digits 4 (crc ([72, 79, 77, 69, 1, b] ++ (zs 22 ++ v)) : Nat)).drop 28 = v ++ digits 4 (crc ([72, 79, 77, 69, 1, b] ++ (zs 22 ++ v)) : Nat) := by
    rw [show [72, 79, 77, 69, 1, b] ++ (zs 22 ++ v) ++ digits 4 (crc ([72, 79, 77, 69, 1, b] ++ (zs 22 ++ v)) : Nat) = ([72, 79, 77, 69, 1, b] ++ zs 22) ++ (v ++ digits 4 (crc ([72, 79, 77, 69, 1, b] ++ (zs 22 ++ v)) : Nat)) by simp only [List.append_assoc]]
    exact List.drop_left' (by simp [zs_len])
  rw [e]
  exact List.take_left' h
theorem hdec_home {b : Int} (hb : inB b) {v : List Int} (h : v.length = 32) : hdec (homeS b v) b = (v, 0) := by
  rw [hdec_ok hb (homeS_len b h) (by rw [cutV_home b h]), cutV_home b h]
theorem neqV (w : World) (xs ys : List Int) (hx : xs.length = 32) (hy : ys.length = 32) : (binOp .neq 39 (.agg (U8 xs).toArray) (.agg (U8 ys).toArray)).run Tryz.prog w = .ok (.bool (!decide (xs = ys))) w := by
  rw [run_neq_struct, equalV w 9998 xs ys hx hy]
  rfl
theorem neqV_same (w : World) (xs : List Int) (hx : xs.length = 32) : (binOp .neq 39 (.agg (U8 xs).toArray) (.agg (U8 xs).toArray)).run Tryz.prog w = .ok (.bool false) w := by
  rw [neqV w xs xs hx hx, decide_eq_true rfl]; rfl
theorem yields_neq_is {P : Program} {ops : Array Oper} {S : World → Prop} {o : Oper} {a : Act} (hw : Region.wanted o (yielded ops a.tmps) = true) (ty : TypeId) {x y : Operand} {t2 : TypeId} (ho : o.op = .binOp .neq ty x y t2) {xs ys : Array Value} {v : Value} (hx : a.eval x = .agg xs) (hy : a.eval y = .agg ys) (hg : P.eqGuardType P.depth ty = false) (hrun : ∀ w, (binOp .neq ty (.agg xs) (.agg ys)).run P w = .ok v w) : YieldsIf P ops S o v a :=
  .inl ⟨hw, fun w _ => by unfold execOp; simp only [ho, hx, hy, Sem.run_bind, run_eqGuard_agg w .neq ty x y xs ys hg, hrun w, Result.andThen_ok, Sem.run_pure]⟩
section
variable {P : Program} {ops : Array Oper} {Q : Exit → Act → World → Prop} {md : Region.Mode} {S : World → Prop} {fuel : Nat} {listed : Array Bool} {a : Act} {w : World}
theorem tkq (i : Nat) {oi : Oper} {ty t2 : TypeId} {x y : Operand} {xs ys : Array Value} {v : Value} {a' : Act} (hS : S w) (hgt : P.eqGuardType P.depth ty = false) (hrun : ∀ w, (binOp .neq ty (.agg xs) (.agg ys)).run P w = .ok v w) (h : wpAnyH P md ops Q S fuel (listed.setIfInBounds i true) a' w) (hi : ops[i]? = some oi := by simp; rfl) (ho : oi.op = .binOp .neq ty x y t2 := by rfl) (hx : a.eval x = .agg xs := by rfl) (hy : a.eval y = .agg ys := by rfl) (hs : Region.noSelect ops = true := by kernel_rfl) (hf : Region.free md ops listed i = true := by kernel_rfl) (hr : (Region.ready md ops listed).contains i = true := by kernel_rfl) (hg : Region.wanted oi (yielded ops a.tmps) = true := by rfl) (ha : a.put oi.dst v = a' := by simp only [Act.put, List.setIfInBounds_toArray, List.set_cons_zero, List.set_cons_succ]; with_reducible rfl) (hQ : ∀ c a w, Q (.panic c) (a.put oi.dst v) w → Q (.panic c) a w := by exact fun _ _ _ h => h) : wpAnyH P md ops Q S (fuel + 1) listed a w :=
  wpAnyH_take hi hs hf hr hQ (yields_neq_is hg ty ho hx hy hgt hrun) hS (ha ▸ h)
end
theorem VC_at : ∀ (l : List (List Int)) (k : Nat) (v : List Int), (∀ x ∈ l, x.length = 32) → l[k]? = some v → ∀ (j : Nat) (u : Value), (U8 v)[j]? = some u → (VC l)[k * 32 + j]? = some u
  | [], k, v, _, h, _, _, _ => by simp at h
  | x :: l, 0, v, h, hv, j, u, hu => by
    obtain rfl : x = v := by simpa using hv
    rw [VC_cons, Nat.zero_mul, Nat.zero_add, List.getElem?_append_left (List.getElem?_eq_some_iff.1 hu).1]; exact hu
  | x :: l, k + 1, v, h, hv, j, u, hu => by
    have hx : (U8 x).length = 32 := by rw [U8_length]; exact h x (List.mem_cons.2 (.inl rfl))
    rw [VC_cons, List.getElem?_append_right (by omega), hx, show (k + 1) * 32 + j - 32 = k * 32 + j by omega]
    exact VC_at l k v (fun y hy => h y (List.mem_cons.2 (.inr hy))) (by simpa using hv) j u hu
theorem VC_load {W : World} {b k : Nat} {ms : List (List Int)} {v : List Int} (h : W.rangeAt b 0 (VC ms)) (h32 : ∀ x ∈ ms, x.length = 32) (hk : ms[k]? = some v) : (Instr.loadAt 39 (.pointer (some ⟨b, k * 32, none⟩))).run Tryz.prog W = .ok (.agg (U8 v).toArray) W :=
  run_loadAt_mid W b (k * 32) 39 (U8 v) _ (fun j u hu => by have := h (k * 32 + j) u (VC_at ms k v h32 hk j u hu); rwa [Nat.zero_add] at this) Tryz.underlying39 rfl (by rw [sizeV, U8_length, h32 v (List.mem_of_getElem? hk)])
theorem alS_want {c : Sup} {e : List Int} {tx : List TX} (hc : MayC c) (hh : ∀ b : Nat, b < c.bl.toNat → sec e (1 + b) = homeS b (wantS tx b)) (h32 : ∀ i ∈ flat tx, i.v.length = 32) : alS c (cntS c) [] e = (vlsI c (flat tx), 0) := by
  have hb := hc.1
  have hr : rfS c (cntS c) = 0 := rfS_ok hc (cntS_is hc)
  have key : ∀ b : Nat, b < c.bl.toNat → ldS c (cntS c) [] e (b : Int) = (wantI (flat tx) b, 0) := fun b hlt => by
    rw [ldS_yes [] e (rbS_ok hr ⟨by omega, by omega⟩), newest_nil, show (1 + (b : Int)).toNat = 1 + b by omega, hh b hlt]
    exact hdec_home ⟨by omega, by omega⟩ (wantI_len h32 b)
  rw [alS_ok hr (allB_iff.2 fun b hlt => by rw [key b hlt])]
  unfold vals vlsI
  congr 1
  exact List.map_congr_left fun b hm => by rw [key b (List.mem_range.1 hm)]
section
variable {w0 w w' : World} {X : List Kd} {i j M p : Nat} {c : Sup}
set_option maxHeartbeats 20000000 in
set_option maxRecDepth 100000 in
theorem is_at (ht : Tab w0) (hc : MayC c) {e : List Int} (h : Fz w0 w X) (hj : X[j]? = some (kd p (cntS c) ⟨e, []⟩)) {ms : List (List Int)} {wb wc : Nat} (hw : w.rangeAt wb 0 (VC ms)) (hwl : wb < w.heap.size) (hml : ms.length = c.bl.toNat) (h32 : ∀ v ∈ ms, v.length = 32) {tail : Int} (hA : alS c (cntS c) [] e = (ms, 0)) (hpos : ∀ k, k < c.lc.toNat → (R.decS (sec e (1 + c.bl.toNat + k))).2 = 0 → (R.decS (sec e (1 + c.bl.toNat + k))).1.pos < tail) : Calls Tryz.prog 22 #[qp p, .agg (ccells c).toArray, .slice (some ⟨wb, 0, none⟩) ms.length wc, .int .u64 tail] w fun r w' => r = .returned (.bool true) ∧ Fz w0 w' X := by
  have hb := hc.1
  have hl := hc.2.1
  have h1 := h.newa (ccells c) 23
  obtain ⟨C, hC⟩ : ∃ B, w.heap.size = B := ⟨_, rfl⟩
  have hw1 : (w.alloc (.cells (ccells c).toArray 23)).rangeAt wb 0 (VC ms) := rangeAt_same hw ((below_alloc w _).block wb hwl)
  have hwl1 : wb < (w.alloc (.cells (ccells c).toArray 23)).heap.size := by simp; omega
  rw [hC] at h1
  have HC : Hid (_) := cfl h1 (i := 0) rfl
  have H1 : Hid (Fz w0 (w.alloc (.cells (ccells c).toArray 23)) (kb C 23 (ccells c) :: X)) := h1
  have HP : Hid (∀ k, k < c.lc.toNat → (R.decS (sec e (1 + c.bl.toNat + k))).2 = 0 → (R.decS (sec e (1 + c.bl.toNat + k))).1.pos < tail) := hpos
  have H32 : Hid (∀ v ∈ ms, v.length = 32) := h32
  have HW1 : Hid ((w.alloc (.cells (ccells c).toArray 23)).rangeAt wb 0 (VC ms)) := hw1
  obtain ⟨m, hm⟩ : ∃ m, ms.length = m := ⟨_, rfl⟩
  rw [hm]
  have HM : Hid (ms.length = m ∧ m = c.bl.toNat) := ⟨hm, by omega⟩
  have hm1 : 1 ≤ m ∧ m ≤ 64 := by omega
  have HAL : Hid (alS c (cntS c) [] e = (ms, 0)) := hA
  clear h1 h hw hw1 hpos h32 hA hm hml
  go_enter Tryz.func22, Tryz.ntmps22
  go_wp2_with ((with_reducible refine at_ops ?_); (refine wpList_load_is (by rfl) 23 rfl rfl HC.out ?_); simp only [Act.put, List.setIfInBounds_toArray, List.set_cons_zero, List.set_cons_succ])
  obtain ⟨S, hd, -, -⟩ := H1.out.atd (i := j + 1) hj
  refine (hall_any c hd (H1.out.tab ht)).mono ?_
  rintro r w2 ⟨q, cl, rfl, ho, hb2⟩
  rw [HAL.out] at ho ⊢
  have H2 : Hid (Fz w0 w2 (kb C 23 (ccells c) :: X)) := H1.out.later hb2
  obtain ⟨g, rfl⟩ : ∃ g, q = some ⟨g, 0, none⟩ := by
    rcases ho.2 with ⟨_, e⟩ | ⟨b, cap, cur, e, _⟩
    · have := HM.out.1; have e : ms.length = 0 := e; omega
    · cases e; exact ⟨b, rfl⟩
  have hg2 := (World.ownsRow.lt ho g rfl).2
  have HG2 : Hid (w2.rangeAt g 0 (VC ms)) := own_range ho
  have HW2 : Hid (w2.rangeAt wb 0 (VC ms)) := rangeAt_same HW1.out (hb2.block wb hwl1)
  have hwl2 : wb < w2.heap.size := Nat.lt_of_lt_of_le hwl1 hb2.size
  clear ho hb2 hd S HAL HC H1 HW1 hwl1
  dsimp only
  rw [HM.out.1]
  go_wp2_with fail
  obtain ⟨S, hd, -, -⟩ := H2.out.atd (i := j + 1) hj
  refine (waiting_any hd (Nat.zero_le _)).mono ?_
  rintro r w3 ⟨gw, vw, rfl, -, hb3⟩
  have H3 : Hid (Fz w0 w3 (kb C 23 (ccells c) :: X)) := H2.out.later hb3
  have HG3 : Hid (w3.rangeAt g 0 (VC ms)) := rangeAt_same HG2.out (hb3.block g hg2)
  have HW3 : Hid (w3.rangeAt wb 0 (VC ms)) := rangeAt_same HW2.out (hb3.block wb hwl2)
  have hg3 : g < w3.heap.size := Nat.lt_of_lt_of_le hg2 hb3.size
  have hwl3 : wb < w3.heap.size := Nat.lt_of_lt_of_le hwl2 hb3.size
  clear hb3 hd S H2 HG2 HW2 hg2 hwl2
  go_wp2_with fail
  go_loopw [11] (fun iv wr => ∃ k : Nat, k ≤ m ∧ iv = .int .i64 k ∧ Hid (Below w3.heap.size w3 wr)) (fun iv _ => m - (intOf iv).toNat)
  case atStart => exact ⟨0, Nat.zero_le _, rfl, Below.refl _ _⟩
  case round =>
    obtain ⟨k, hk, rfl, HB⟩ := hrel
    by_cases hlt : k < m
    · have k1 : (k : Int) < (m : Int) := by omega
      have k0 : (0 : Int) ≤ (k : Int) := by omega
      obtain ⟨v, hv⟩ : ∃ v, ms[k]? = some v := ⟨_, List.getElem?_eq_getElem (by rw [HM.out.1]; exact hlt)⟩
      have HV : Hid (v.length = 32) := H32.out v (List.mem_of_getElem? hv)
      have HLD : Hid (∀ W, Below w3.heap.size w3 W → (Instr.loadAt 39 (.pointer (some ⟨g, k * 32, none⟩))).run Tryz.prog W = .ok (.agg (U8 v).toArray) W ∧ (Instr.loadAt 39 (.pointer (some ⟨wb, k * 32, none⟩))).run Tryz.prog W = .ok (.agg (U8 v).toArray) W) := fun W hb => ⟨VC_load (rangeAt_same HG3.out (hb.block g hg3)) H32.out hv, VC_load (rangeAt_same HW3.out (hb.block wb hwl3)) H32.out hv⟩
      clear hv
      go_wp2_with fail
      refine wp_region_noPanic ?_
      refine wp_region_held_drew (S := fun W => Below w3.heap.size w3 W) (by kernel_rfl) (below_then HB.out (below_drawn 1)) (fun hHeld => ?_)
      generalize wr.drew = wd at *
      refine tk 0 hHeld ?_
      refine tk 1 hHeld ?_
      refine tk 2 hHeld ?_
      refine tkm 3 hHeld (fun _ s => (HLD.out _ s).1) ?_
      refine tk 4 hHeld ?_
      refine tk 5 hHeld ?_
      refine tk 6 hHeld ?_
      refine tkm 7 hHeld (fun _ s => (HLD.out _ s).2) ?_
      refine tkq 8 hHeld R.eqg24 (fun w => neqV_same w v HV.out) ?_
      have HBd : Hid (Below w3.heap.size w3 wd) := hHeld
      clear hHeld
      refine wpAnyH_done (by kernel_rfl) (NoPanic.normal ?_) _
      clear HLD
      go_wp2_with fail
      go_roundw
      case rel => exact ⟨k + 1, by omega, by congr 1, HBd⟩
      case measure => simp [intOf]; omega
    · have k1 : ¬ (k : Int) < (m : Int) := by omega
      have H4 : Hid (Fz w0 wr (kb C 23 (ccells c) :: X)) := H3.out.later HB.out
      clear H3 HB HG3 HW3
      go_wp2_with fail
      go_loopw [12] (fun iv wr => ∃ s : Nat, (s : Int) ≤ c.lc ∧ iv = .int .i64 s ∧ Hid (Fz w0 wr (kb C 23 (ccells c) :: X))) (fun iv _ => c.lc.toNat - (intOf iv).toNat)
      case atStart => exact ⟨0, by omega, rfl, H4⟩
      case round =>
        obtain ⟨s, hs, rfl, HF⟩ := hrel
        clear H4
        have c1 := CAt.c1 (cfc HF.out (i := 0) rfl)
        by_cases hsl : (s : Int) < c.lc
        · have c0 := CAt.c0 (cfc HF.out (i := 0) rfl)
          have x1 : IntKind.i64.wrap (1 + c.bl) = 1 + c.bl := by rw [IntKind.wrap_i64]; omega
          have x2 : IntKind.i64.wrap (1 + c.bl + (s : Int)) = 1 + c.bl + (s : Int) := by rw [IntKind.wrap_i64]; omega
          go_wp2_with fail
          obtain ⟨S, hd, -, -⟩ := HF.out.atd (i := j + 1) hj
          have hdok := HF.out.dok (j := j + 1) hj
          refine (read_at hd (1 + c.bl + (s : Int)) (by omega) (by have := cntS_is hc; omega)).mono ?_
          rintro r w5 ⟨q5, c5, rfl, hB5, hc5, hb5⟩
          have H5 : Hid (Fz w0 w5 (kb C 23 (ccells c) :: X)) := HF.out.later hb5
          have e5 : newest [] e (1 + c.bl + (s : Int)).toNat = sec e (1 + c.bl.toNat + s) := by rw [newest_nil]; congr 1; omega
          have hB5' : BIn w5 q5 64 (newest [] e (1 + c.bl + (s : Int)).toNat) := hB5
          rw [e5] at hB5'
          have HB5 : Hid (BIn w5 q5 64 (sec e (1 + c.bl.toNat + s))) := hB5'
          have HWF : Hid ((R.decS (sec e (1 + c.bl.toNat + s))).1.Wf) := R.decS_wf _ hB5'.byte
          clear hb5 hd S hB5 hB5' HF c0 c1 x1 x2 hdok e5
          go_wp2_with fail
          refine (R.decode_any q5 64 c5 _ w5 HB5.out hc5 (H5.out.tab ht).half).mono ?_
          rintro r w6 ⟨rfl, hb6⟩
          have H6 : Hid (Fz w0 w6 (kb C 23 (ccells c) :: X)) := H5.out.later hb6
          have hps := HP.out s (by omega)
          obtain ⟨rc, hrc⟩ : ∃ rc, R.decS (sec e (1 + c.bl.toNat + s)) = rc := ⟨_, rfl⟩
          rw [hrc] at hps HWF ⊢
          have HAL : Hid (_) := R.alloc31 w6
          have HST : Hid (_) := R.store_new R.size31 w6 rc.1 HWF.out.len
          have HR7 : Hid (R.RAt 139 (w6.alloc (.cells (R.rcells rc.1).toArray 139)) w6.heap.size rc.1) := R.RAt.new 139 w6 rc.1
          have p1 := HR7.out.c1
          have H7 : Hid (Fz w0 (w6.alloc (.cells (R.rcells rc.1).toArray 139)) (kb C 23 (ccells c) :: X)) := H6.out.later (below_alloc _ _)
          clear hb6 hrc H5 H6 HB5 HR7
          by_cases hz : rc.2 = 0
          · have hlt2 := hps hz
            have hq : ¬ tail ≤ rc.1.pos := by omega
            rw [hz]
            go_wp2_with ((with_reducible refine at_ops ?_); (first | (refine wpList_alloc_is (by rfl) 139 rfl HAL.out ?_) | (refine wpList_store_is (by rfl) 139 rfl rfl rfl HST.out ?_)); simp only [Act.put, List.setIfInBounds_toArray, List.set_cons_zero, List.set_cons_succ])
            go_roundw
            case rel => exact ⟨s + 1, by omega, by congr 1, H7⟩
            case measure => simp [intOf]; omega
          · have hq : (rc.2 == 0) = false := by simp [hz]
            clear p1
            go_wp2_with ((with_reducible refine at_ops ?_); (first | (refine wpList_alloc_is (by rfl) 139 rfl HAL.out ?_) | (refine wpList_store_is (by rfl) 139 rfl rfl rfl HST.out ?_)); simp only [Act.put, List.setIfInBounds_toArray, List.set_cons_zero, List.set_cons_succ])
            go_roundw
            case rel => exact ⟨s + 1, by omega, by congr 1, H7⟩
            case measure => simp [intOf]; omega
        · have HZ : Hid (Fz w0 wr X) := HF.out.pop
          go_wp2_with fail
          go_ret
          exact ⟨rfl, HZ.out⟩
end
end Go.Proofs.YtdadpepfpiimgaaGreatDoor.Q
namespace Go.Proofs.YtdadpepfpiimgaaGreatDoor.Q
open Go.RowKit
theorem goS_ws (n : Int) : ∀ (k : Nat) (x : Rc) (D : Dd), (goS n k x D).D.ws.length ≤ D.ws.length + k
  | 0, x, D => Nat.le_refl _
  | k + 1, x, D => by
    have hs := step_ws n x D
    by_cases h6 : x.st = 6
    · rw [goS_over n (k + 1) D h6]; show D.ws.length ≤ _; omega
    · by_cases he : (stepS n x D).err = 0
      · rw [goS_step h6 he]
        have := goS_ws n k (stepS n x D).x (stepS n x D).D
        show (goS n k _ _).D.ws.length ≤ _; omega
      · rw [goS_bad h6 he]; show (stepS n x D).D.ws.length ≤ _; omega
def Th.pin (b : Nat) (m : List (List Int)) : Th := ⟨fun w G => G b ∧ w.rangeAt b 0 (VC m) ∧ 0 < (VC m).length, fun _ => False, fun _ _ _ _ h => h.elim, fun _ _ _ _ _ h hk _ hS hG => ⟨hG b h.1, range_block h.2.1 (hk.block b (range_lt h.2.1 h.2.2) (hS b h.1 (range_lt h.2.1 h.2.2))), h.2.2⟩⟩
def kp (b : Nat) (m : List (List Int)) : Kd := fun t => t = Th.pin b m
section
variable {w0 w w' : World} {X : List Kd} {i j : Nat}
theorem Fz.pinned (h : Fz w0 w X) {v : Value} {ms : List (List (List Int))} (hi : X[i]? = some (km v ms)) {k : Nat} {m : List (List Int)} (hk : ms[k]? = some m) : ∃ q cap b c, v = .slice (some ⟨q, 0, none⟩) ms.length cap ∧ w.cell? ⟨q, k, none⟩ = some (.slice (some ⟨b, 0, none⟩) m.length c) ∧ Fz w0 w (kp b m :: X) := by
  obtain ⟨T, G, hF, hb0, hX⟩ := h
  obtain ⟨t, ht, rfl⟩ := hX.get hi
  obtain ⟨vs, el, ho, hm⟩ := (show MAt w G v ms from hF.at' i _ ht).ex
  obtain ⟨b, c, e1, e2, e3, e4⟩ := hm k m hk
  have hlt := (List.getElem?_eq_some_iff.1 hk).1
  obtain ⟨q, cap, rfl, -, -⟩ := own_slice ho
  obtain ⟨g, rfl⟩ : ∃ g, q = some ⟨g, 0, none⟩ := by
    rcases ho.2 with ⟨_, e⟩ | ⟨g, cap, cur, e, _⟩
    · omega
    · cases e; exact ⟨g, rfl⟩
  have hc := own_range ho k _ e1
  rw [Nat.zero_add] at hc
  refine ⟨g, cap, b, c, by rw [el], hc, .pin b m :: T, G, hF.push hb0.size (Below.refl _ _) (fun _ a => a) ⟨e2, e3, e4⟩ (fun _ h => h.elim) (fun _ a => .inl a), hb0, rfl, hX⟩
theorem Fz.atp (h : Fz w0 w X) {b : Nat} {m : List (List Int)} (hi : X[i]? = some (kp b m)) : w.rangeAt b 0 (VC m) ∧ b < w.heap.size := by
  obtain ⟨t, G, rfl, ha, -, -⟩ := h.at hi
  have ha : G b ∧ w.rangeAt b 0 (VC m) ∧ 0 < (VC m).length := ha
  exact ⟨ha.2.1, range_lt ha.2.1 ha.2.2⟩
theorem Fz.pk3 {a b d e f g : Kd} (h : Fz w0 w [a, b, d, e, f, g]) : Fz w0 w [a, f, g] := by
  refine h.pick (fun i => match i with | 0 => 0 | i + 1 => i + 4) (fun i hi => ?_) (fun i j hi hj e => ?_)
  · match i, hi with
    | 0, _ => exact ⟨by simp, rfl⟩
    | 1, _ => exact ⟨by simp, rfl⟩
    | 2, _ => exact ⟨by simp, rfl⟩
  · match i, j with
    | 0, 0 => rfl
    | i + 1, j + 1 => have e : i + 4 = j + 4 := e; omega
    | 0, j + 1 => have e : 0 = j + 4 := e; omega
    | i + 1, 0 => have e : i + 4 = 0 := e; omega
theorem Fz.someint {l : List Int} {v : Value} (h : Fz w0 w X) (hi : X[i]? = some (ki v l)) (h0 : 0 < l.length) : ∃ b c, v = .slice (some ⟨b, 0, none⟩) l.length c := by
  obtain ⟨t, G, rfl, ha, -, -⟩ := h.at hi
  obtain ⟨q, c, rfl, -, -⟩ := own_slice (show w.ownsRow 0 3 1 v l.length _ from ha)
  rcases (show w.ownsRow 0 3 1 (.slice q l.length c) l.length _ from ha).2 with ⟨_, e⟩ | ⟨b, cap, cur, e, _⟩
  · omega
  · cases e; exact ⟨b, c, rfl⟩
end
structure KV where
  a : Option Addr
  n : Nat
  c : Nat
  xs : List Int
structure KIn (w : World) (p : Option Addr) (n : Nat) (ks : List KV) : Prop where
  len : ks.length = n
  rows : 0 < n → ∃ b o, p = some ⟨b, o, none⟩ ∧ b < w.heap.size ∧ ∀ (i : Nat) k, ks[i]? = some k → w.cell? ⟨b, o + i, none⟩ = some (.slice k.a k.n k.c)
  ins : ∀ k ∈ ks, JIn w k.a k.n k.xs ∧ k.n ≤ 140737488355328
theorem KIn.at {w w' : World} {p : Option Addr} {n : Nat} {ks : List KV} (h : KIn w p n ks) (hb : Below w.heap.size w w') {r : Nat} (hr : r < n) : ∃ (b o : Nat) (k : KV), p = some ⟨b, o, none⟩ ∧ w'.cell? ⟨b, o + r, none⟩ = some (.slice k.a k.n k.c) ∧ JIn w k.a k.n k.xs ∧ k.n ≤ 140737488355328 := by
  obtain ⟨b, o, e, hl, hc⟩ := h.rows (by omega)
  have hlt : r < ks.length := by rw [h.len]; exact hr
  have hin := h.ins _ (List.getElem_mem hlt)
  have := hc r _ (List.getElem?_eq_getElem hlt)
  exact ⟨b, o, ks[r], e, by rw [hb.cell (p := ⟨b, o + r, none⟩) hl]; exact this, hin.1, hin.2⟩
theorem JIn.none0 (w : World) : JIn w none 0 [] := ⟨rfl, fun h => absurd h (Nat.lt_irrefl 0)⟩
def crd (ks : List Int) : Nat := (ks.filter fun k => k == 15).length
theorem crd_all (m : Nat) : crd (19 :: (List.replicate m 15 ++ [12, 16, 20])) = m := by
  unfold crd
  rw [List.filter_cons_of_neg (by decide), List.filter_append, List.length_append, List.filter_replicate, if_pos (by decide), List.length_replicate]
  rfl
theorem crd_snoc (ks : List Int) (y : Int) : crd (ks ++ [y]) = crd ks + (if y = 15 then 1 else 0) := by
  unfold crd
  rw [List.filter_append, List.length_append]
  by_cases c : y = 15
  · rw [if_pos c, List.filter_cons_of_pos (by simp [c])]; rfl
  · rw [if_neg c, List.filter_cons_of_neg (by simp [c])]; rfl
structure Kns (ks : List Int) (m : Nat) : Prop where
  len : ks.length = m + 4
  fst : ks[0]? = some 19
  lst : ks[m + 3]? = some 20
  cnt : crd ks = m
theorem kns_of (m : Nat) : Kns (19 :: (List.replicate m 15 ++ [12, 16, 20])) m := by
  refine ⟨by simp, rfl, ?_, crd_all m⟩
  rw [show m + 3 = (m + 2) + 1 from rfl, List.getElem?_cons_succ, List.getElem?_append_right (by simp), List.length_replicate, Nat.add_sub_cancel_left]; rfl
theorem build_model (w : World) : (Instr.build 62 #[]).run Tryz.prog w = .ok (.agg (mcl 0 0 (.slice none 0 0) (.slice none 0 0)).toArray) w := run_build w 62 _ _ (by kernel_rfl)
theorem flat_ahead {l : List TX} {n : Int} {i : Im} (h : i ∈ flat (aheadT l n)) : i ∈ flat l := by
  obtain ⟨t, ht, hi⟩ := List.mem_flatMap.1 h
  exact List.mem_flatMap.2 ⟨t, (List.mem_filter.1 ht).1, hi⟩
theorem foldS_len {mr : Int} : ∀ (l : List R.Rec) (p : Int) (s s' : Sc), foldS mr l p s = some s' → s'.txs.length ≤ s.txs.length + l.length
  | [], p, s, s', e => by cases e; exact Nat.le_refl _
  | r :: l, p, s, s', e => by
    have e : (scStep mr s p r).bind (fun s' => foldS mr l (p + 1) s') = some s' := e
    cases e1 : scStep mr s p r with
    | none => rw [e1] at e; cases e
    | some s1 =>
      rw [e1] at e
      have h1 : s1.txs.length ≤ s.txs.length + 1 := by
        by_cases c1 : r.kind = 1 ∧ Folls s.come r.block mr
        · rw [scStep_img c1] at e1; cases e1; exact Nat.le_succ _
        · by_cases c2 : r.kind = 2 ∧ r.images = s.come.length
          · rw [scStep_com c2] at e1; cases e1
            show (s.txs ++ [_]).length ≤ _
            rw [List.length_append, List.length_singleton]; exact Nat.le_refl _
          · rw [scStep_no c1 c2] at e1; cases e1
      have := foldS_len l (p + 1) s1 s' e
      rw [List.length_cons]; omega
end Go.Proofs.YtdadpepfpiimgaaGreatDoor.Q
