/-
  Layer 9: same: lists of records.
-/
import Derived.Test.YtmcpjokbkkfgfaaGreatDoorT29
import Derived.Test.YtmcpjokbkkfgfaaGreatDoorT16
import Derived.Test.YtmcpjokbkkfgfaaGreatDoorT25
import Derived.Test.YtmcpjokbkkfgfaaGreatDoorT30
import Derived.Test.YtmcpjokbkkfgfaaGreatDoorT27
namespace Go.Proofs.YtmcpjokbkkfgfaaGreatDoor
open Go.RowKit


theorem RC_at {xs : List R.Rec} (h : ∀ r ∈ xs, r.val.length = 32) (i j : Nat) (hi : i < xs.length) (hj : j < 36) : (RC xs)[i * 36 + j]? = (R.rcells xs[i])[j]? := by
  unfold RC
  rw [Nat.mul_comm, flat_at (m := 36) (xs.map R.rcells) (fun l hl => by obtain ⟨x, hx, rfl⟩ := List.mem_map.1 hl; exact R.rcells_len x (h x hx)) i (by simpa using hi) j hj]
  simp
/-- a list of records that is read -/
structure RcIn (w : World) (p : Option Addr) (n : Nat) (xs : List R.Rec) : Prop where
  len : xs.length = n
  each : ∀ r ∈ xs, r.val.length = 32
  cells : 0 < n → ∃ b o, p = some ⟨b, o, none⟩ ∧ b < w.heap.size ∧ ∀ i (h : i < xs.length), w.rangeAt b (o + i * 36) (R.rcells xs[i])
theorem RcIn.later {w w' : World} {p : Option Addr} {n : Nat} {xs : List R.Rec} (h : RcIn w p n xs) (hb : Below w.heap.size w w') : RcIn w' p n xs :=
  ⟨h.len, h.each, fun h0 => by
    obtain ⟨b, o, e, hlt, hc⟩ := h.cells h0
    exact ⟨b, o, e, Nat.lt_of_lt_of_le hlt hb.size, fun i hi => rangeAt_same (hc i hi) (hb.block b hlt)⟩⟩
theorem RcIn.of_own {w : World} {base n c : Nat} {p : Option Addr} {xs : List R.Rec} (h : w.ownsRow base 87 36 (.slice p n c) n (RC xs)) (he : ∀ r ∈ xs, r.val.length = 32) (hn : xs.length = n) : RcIn w p n xs := by
  refine ⟨hn, he, fun h0 => ?_⟩
  obtain ⟨p', c', e, hnil, hsome⟩ := own_slice h
  simp only [Value.slice.injEq, true_and] at e
  obtain ⟨rfl, rfl⟩ := e
  cases hp : p with
  | none => have := (hnil hp).1; omega
  | some a =>
    obtain ⟨g, rfl⟩ := hsome a hp
    subst hp
    refine ⟨g, 0, rfl, (own_blk h).1.lt, fun i hi => own_range_part h (fun j v hv => ?_)⟩
    have hj : j < 36 := by
      have := (List.getElem?_eq_some_iff.1 hv).1
      rw [R.rcells_len _ (he _ (List.getElem_mem hi))] at this
      exact this
    rw [Nat.zero_add, RC_at he i j hi hj]
    exact hv
/-- its beginning -/
theorem RcIn.take {w : World} {p : Option Addr} {n : Nat} {xs : List R.Rec} (h : RcIn w p n xs) (k : Nat) (hk : k ≤ n) : RcIn w p k (xs.take k) := by
  refine ⟨by rw [List.length_take, h.len]; omega, fun r hr => h.each r (List.mem_of_mem_take hr), fun h0 => ?_⟩
  obtain ⟨b, o, e, hlt, hc⟩ := h.cells (by omega)
  refine ⟨b, o, e, hlt, fun i hi => ?_⟩
  have hi' : i < xs.length := by rw [List.length_take] at hi; omega
  rw [List.getElem_take]
  exact hc i hi'
set_option maxHeartbeats 1000000 in
set_option maxRecDepth 100000 in
theorem same_recs (p q : Option Addr) (n c d : Nat) (xs : List R.Rec) (w : World) (h : RcIn w p n xs) (k : RcIn w q n xs) (hbig : n ≤ 140737488355328) :
    Calls Tryz.prog 30 #[.slice p n c, .slice q n d] w fun e w' => e = .returned (.bool true) ∧ Below w.heap.size w w' := by
  have HP : Hid (RcIn w p n xs) := h
  have HQ : Hid (RcIn w q n xs) := k
  have e1 : (((n : Nat) : Int) != (n : Int)) = false := by simp
  clear h k
  go_enter Tryz.func30, Tryz.ntmps30
  go_wp2_with fail
  clear e1
  go_loopw [5] (fun i wr => ∃ j : Nat, j ≤ n ∧ i = .int .i64 j ∧ Hid (Below w.heap.size w wr)) (fun i _ => n - (intOf i).toNat)
  case atStart => exact ⟨0, Nat.zero_le _, rfl, Below.refl _ _⟩
  case round =>
    obtain ⟨j, hj, rfl, Br⟩ := hrel
    by_cases hlt : j < n
    · have h0 : 0 < n := by omega
      have hjv : j < xs.length := by rw [HP.out.len]; exact hlt
      obtain ⟨b1, o1, rfl, hb1, hc1⟩ := HP.out.cells h0
      obtain ⟨b2, o2, rfl, hb2, hc2⟩ := HQ.out.cells h0
      have R1 : Hid (w.rangeAt b1 (o1 + j * 36) (R.rcells xs[j])) := hc1 j hjv
      have R2 : Hid (w.rangeAt b2 (o2 + j * 36) (R.rcells xs[j])) := hc2 j hjv
      have M1 : Hid (b1 < w.heap.size) := hb1
      have M2 : Hid (b2 < w.heap.size) := hb2
      have L1 : Hid (xs[j].val.length = 32) := HP.out.each _ (List.getElem_mem hjv)
      generalize xs[j] = x at *
      have QE : Hid (∀ w, (binOp .neq 87 (.agg (R.rcells x).toArray) (.agg (R.rcells x).toArray)).run Tryz.prog w = .ok (.bool false) w) := fun w => by rw [R.neq37 w _ _ L1.out L1.out, R.recB_same]; rfl
      have i1 : (j : Int) < (n : Int) := by omega
      have i0 : (0 : Int) ≤ (j : Int) := by omega
      clear hc1 hc2 hb1 hb2 hjv
      obtain ⟨wv, hwv⟩ : ∃ wv, wv = wr := ⟨_, rfl⟩
      subst hwv
      go_wp2_with fail
      refine wp_region_noPanic ?_
      refine wp_region_held_drew (S := fun w' => Below wv.heap.size wv w') (by kernel_rfl) (below_drawn 1) (fun hHeld => ?_)
      have DD : Hid (Below wv.heap.size wv wv.drew) := hHeld
      generalize wv.drew = wd at *
      refine wpAnyH_take (i := 0) (v := ?va1) (by simp; rfl) (by kernel_rfl) (by kernel_rfl) (by kernel_rfl) (fun _ _ _ h => h) (Or.inl ⟨by rfl, ?ya1⟩) hHeld ?ra1
      case ya1 => intro w hSw; clear hSw; go_simp; with_reducible rfl
      simp only [Act.put, List.setIfInBounds_toArray, List.set_cons_zero, List.set_cons_succ]
      refine wpAnyH_take (i := 1) (v := ?va2) (by simp; rfl) (by kernel_rfl) (by kernel_rfl) (by kernel_rfl) (fun _ _ _ h => h) (Or.inl ⟨by rfl, ?ya2⟩) hHeld ?ra2
      case ya2 => intro w hSw; clear hSw; go_simp; with_reducible rfl
      simp only [Act.put, List.setIfInBounds_toArray, List.set_cons_zero, List.set_cons_succ]
      refine wpAnyH_take (i := 2) (v := ?va3) (by simp; rfl) (by kernel_rfl) (by kernel_rfl) (by kernel_rfl) (fun _ _ _ h => h) (Or.inl ⟨by rfl, ?ya3⟩) hHeld ?ra3
      case ya3 => intro w hSw; clear hSw; go_simp; with_reducible rfl
      simp only [Act.put, List.setIfInBounds_toArray, List.set_cons_zero, List.set_cons_succ]
      refine wpAnyH_take (i := 3) (v := _) (by simp; rfl) (by kernel_rfl) (by kernel_rfl) (by kernel_rfl) (fun _ _ _ h => h) (yieldsIf_load_mid (by rfl) 87 (.tmp 19) rfl b1 (o1 + j * 36) rfl (R.rcells x) _ (fun _ h => rangeAt_same R1.out ((Br.out.trans (h.mono Br.out.size)).block b1 M1.out)) Tryz.underlying87 rfl (by rw [R.size37, R.rcells_len x L1.out])) hHeld ?_
      simp only [Act.put, List.setIfInBounds_toArray, List.set_cons_zero, List.set_cons_succ]
      refine wpAnyH_take (i := 4) (v := ?va4) (by simp; rfl) (by kernel_rfl) (by kernel_rfl) (by kernel_rfl) (fun _ _ _ h => h) (Or.inl ⟨by rfl, ?ya4⟩) hHeld ?ra4
      case ya4 => intro w hSw; clear hSw; go_simp; with_reducible rfl
      simp only [Act.put, List.setIfInBounds_toArray, List.set_cons_zero, List.set_cons_succ]
      refine wpAnyH_take (i := 5) (v := ?va5) (by simp; rfl) (by kernel_rfl) (by kernel_rfl) (by kernel_rfl) (fun _ _ _ h => h) (Or.inl ⟨by rfl, ?ya5⟩) hHeld ?ra5
      case ya5 => intro w hSw; clear hSw; go_simp; with_reducible rfl
      simp only [Act.put, List.setIfInBounds_toArray, List.set_cons_zero, List.set_cons_succ]
      refine wpAnyH_take (i := 6) (v := ?va6) (by simp; rfl) (by kernel_rfl) (by kernel_rfl) (by kernel_rfl) (fun _ _ _ h => h) (Or.inl ⟨by rfl, ?ya6⟩) hHeld ?ra6
      case ya6 => intro w hSw; clear hSw; go_simp; with_reducible rfl
      simp only [Act.put, List.setIfInBounds_toArray, List.set_cons_zero, List.set_cons_succ]
      refine wpAnyH_take (i := 7) (v := _) (by simp; rfl) (by kernel_rfl) (by kernel_rfl) (by kernel_rfl) (fun _ _ _ h => h) (yieldsIf_load_mid (by rfl) 87 (.tmp 23) rfl b2 (o2 + j * 36) rfl (R.rcells x) _ (fun _ h => rangeAt_same R2.out ((Br.out.trans (h.mono Br.out.size)).block b2 M2.out)) Tryz.underlying87 rfl (by rw [R.size37, R.rcells_len x L1.out])) hHeld ?_
      simp only [Act.put, List.setIfInBounds_toArray, List.set_cons_zero, List.set_cons_succ]
      refine wpAnyH_take (i := 8) (v := _) (by simp; rfl) (by kernel_rfl) (by kernel_rfl) (by kernel_rfl) (fun _ _ _ h => h) (yields_neq_is (by rfl) 87 rfl rfl rfl R.eqg37 QE.out) hHeld ?_
      simp only [Act.put, List.setIfInBounds_toArray, List.set_cons_zero, List.set_cons_succ]
      clear hHeld
      refine wpAnyH_done (by kernel_rfl) (NoPanic.normal ?_) _
      have B3 : Hid (Below w.heap.size w wd) := below_then Br.out DD.out
      clear Br QE R1 R2 L1 DD
      go_wp2_with fail
      go_roundw
      case rel => exact ⟨j + 1, by omega, by go_num, B3.out⟩
      case measure => simp [intOf]; omega
    · have hnl : ¬ (j : Int) < (n : Int) := by omega
      go_wp2_with fail
      go_ret
      exact ⟨rfl, Br.out⟩
end Go.Proofs.YtmcpjokbkkfgfaaGreatDoor

/-
  Layer 9: plays: All.
-/
namespace Go.Proofs.YtmcpjokbkkfgfaaGreatDoor
open Go.RowKit


theorem allR_each {rd : Int → R.Rec × Int} (h : ∀ p, (rd p).1.val.length = 32) : ∀ (n : Nat) (t : Int), ∀ r ∈ allR rd t n, r.val.length = 32
  | 0, _, r, hr => by simp [allR] at hr
  | n + 1, t, r, hr => by
    unfold allR at hr
    split at hr
    · rcases List.mem_cons.1 hr with rfl | hr
      · exact h t
      · exact allR_each h n (t + 1) r hr
    · cases hr
theorem allR_length {rd : Int → R.Rec × Int} : ∀ (n : Nat) (t : Int), (allR rd t n).length ≤ n
  | 0, _ => Nat.le_refl _
  | n + 1, t => by
    unfold allR
    split
    · rw [List.length_cons]; have := allR_length (rd := rd) n (t + 1); omega
    · exact Nat.zero_le _
theorem own_cap {w : World} {base e size n c : Nat} {p : Option Addr} {xs : List Value} (h : w.ownsRow base e size (.slice p n c) n xs) : n ≤ c := by
  rcases h.2 with ⟨h1, h2⟩ | ⟨g, cap, cur, h1, _, _, h3, _⟩
  · simp only [Value.slice.injEq] at h1; omega
  · simp only [Value.slice.injEq] at h1; omega
set_option maxHeartbeats 8000000 in
set_option maxRecDepth 100000 in
theorem plays_all {w : World} {B P k : Nat} (h : Sq w B P 2 k) (hk : k ≤ 100) (wh b : Int) (v : List Int) (pos : Int) (keep data : Value) :
    Calls Tryz.prog 9 #[.pointer (some ⟨P, 0, none⟩), .agg (ocells 7 wh b v pos keep data).toArray] w fun r w' => r = .returned (.bool true) ∧ Sq w' B P 2 (k + 1) ∧ Below B w w' := by
  have hB := h.B
  have t2 := tmod2 wh
  have e2 := sl2_is wh
  have l2 := sl2_lt wh
  obtain ⟨w0, hw0⟩ : ∃ x, x = w.alloc (.cells (ocells 7 wh b v pos keep data).toArray 53) := ⟨_, rfl⟩
  have ew := hw0.symm
  have b0 : Below w.heap.size w w0 := by rw [hw0]; exact below_alloc w _
  have O0 : OAt w0 w.heap.size 7 wh b v pos keep data := by rw [hw0]; exact LAt.new 53 w _
  have HQ0 : Hid (Sq w0 B P 2 k) := h.later b0
  have HB0 : Hid (Below w.heap.size w w0) := b0
  have ckd := OAt.kind O0
  have cwh := OAt.which O0
  have cb := OAt.block O0
  obtain ⟨i, hi⟩ : ∃ i, i = sl2 wh := ⟨_, rfl⟩
  rw [← hi] at l2 e2
  obtain ⟨⟨R', L, x, K, y, e, bo, hW, hl, -⟩, ht, hb1⟩ := HQ0.out
  have i0 : (0 : Int) ≤ (i : Int) := by omega
  have i2 : (i : Int) < 2 := by omega
  have c0 := hW.cl i l2
  have c2 := hW.cr i l2
  have M1 : Hid (P < w0.heap.size) := hW.blk.lt
  have HLS : Hid (LD w0 (fun k => R' k = 1 + i) (L i) (x i) (e i).d (e i).ws (e i).g) := hW.ls i l2
  have HRS : Hid (RL w0 (fun k => R' k = 3 + i) (K i) (y i) (e i).d (e i).ws (e i).g (bo i)) := hW.rs i l2
  have HT0 : Hid (Tab w0) := ht
  have hle : (e i).ws.length ≤ 100000 := by have := hl i l2; omega
  have HNb : Hid (∀ j, Bytes (newest (e i).ws (e i).d j)) := fun j => by
    obtain ⟨q, cap, u, hp⟩ := (hW.ls i l2).dsk
    exact newk_bytes hp.db hp.fit _
  obtain ⟨xs, hxs⟩ : ∃ xs, xs = allS (e i).g (newest (e i).ws (e i).d) := ⟨_, rfl⟩
  have HX : Hid (xs = allS (e i).g (newest (e i).ws (e i).d)) := hxs
  have HE : Hid (∀ r ∈ xs, r.val.length = 32) := by rw [hxs]; exact allR_each (fun p => rdS_len HNb.out p) _ _
  have hxl : xs.length ≤ 64 := by
    have ok := (hW.ls i l2).ok
    have h1 : xs.length ≤ ((e i).g.fin - (e i).g.tail).toNat := by rw [hxs]; exact allR_length _ _
    have := ok.us; have := ok.cf.2.1; omega
  clear hw0 b0 O0 h hxs hW hl ht hb1 hi
  go_enter Tryz.func9, Tryz.ntmps9
  by_cases hb0 : b < 0
  · go_wp2_with fail
    clear cb c0
    refine (told_any (LD.rdr HLS.out HT0.out) 0 (by omega) (by omega)).mono ?_
    rintro r1 w1 ⟨v1, rfl, ho0, b1'⟩
    have b1 : Hid (Below w0.heap.size w0 w1) := b1'
    have HO1 : Hid (w1.ownsRow w0.heap.size 87 36 v1 (xs.take 0).length (RC (xs.take 0))) := by rw [HX.out]; exact ho0
    clear ho0 b1'
    by_cases hm : xs.length < 0
    · exact absurd hm (by omega)
    · have hmi : ¬ (xs.length : Int) < 0 := by omega
      have ho1 : w1.ownsRow w0.heap.size 87 36 v1 (xs.take 0).length (RC (xs.take 0)) := HO1.out
      rw [show (xs.take 0).length = 0 by rw [List.length_take]; omega] at ho1
      obtain ⟨p1, q1, rfl, -⟩ := own_slice ho1
      have HA : Hid (RcIn w1 p1 0 (xs.take 0)) := RcIn.of_own ho1 (fun r hr => HE.out r (List.mem_of_mem_take hr)) (by rw [List.length_take]; omega)
      clear ho1 HO1
      have d2 := (b1.out.cell (p := ⟨P, 4 + i, none⟩) M1.out).trans c2
      go_wp2_with fail
      clear d2
      refine (rlall_at (RL.later HRS.out b1.out) hle HNb.out).mono ?_
      rintro r2 w2 ⟨v2, rfl, ho2, b2⟩
      rw [← HX.out] at ho2
      obtain ⟨p2, q2, rfl, hn2, hs2⟩ := own_slice ho2
      have HC : Hid (RcIn w2 p2 xs.length xs) := RcIn.of_own ho2 HE.out rfl
      have hq2 : xs.length ≤ q2 := own_cap ho2
      have B2 : Hid (Below w0.heap.size w0 w2) := below_then b1.out b2
      have HA2 : Hid (RcIn w2 p1 0 (xs.take 0)) := HA.out.later b2
      clear HA ho2 b2 b1
      go_wp2_with fail
      refine (same_recs p1 p2 0 q1 q2 (xs.take 0) w2 HA2.out (HC.out.take 0 (by omega)) (by omega)).mono ?_
      rintro r3 w3 ⟨rfl, b3⟩
      have HQz : Hid (Sq w3 B P 2 (k + 1)) := (HQ0.out.later (below_then B2.out b3)).more (Nat.le_succ _)
      have HBz : Hid (Below B w w3) := (below_then HB0.out (below_then B2.out b3)).mono hB
      clear HC HA2 B2 b3 hn2 hs2 hq2 HE HX HQ0 HB0 HRS HLS c2 hxl
      go_wp2_with fail
      refine (HQz.out.tells l2 (by omega)).mono ?_
      rintro r9 w9 ⟨rfl, b9⟩
      have HQ9 : Hid (Sq w9 B P 2 (k + 1)) := HQz.out.later b9
      have HB9 : Hid (Below B w w9) := HBz.out.trans (b9.mono HQz.out.B)
      clear b9 HQz HBz
      go_wp2_with fail
      go_ret
      exact ⟨rfl, HQ9.out, HB9.out⟩
  · by_cases hb9 : 99 < b
    · go_wp2_with fail
      clear cb c0
      refine (told_any (LD.rdr HLS.out HT0.out) 99 (by omega) (by omega)).mono ?_
      rintro r1 w1 ⟨v1, rfl, ho0, b1'⟩
      have b1 : Hid (Below w0.heap.size w0 w1) := b1'
      have HO1 : Hid (w1.ownsRow w0.heap.size 87 36 v1 (xs.take 99).length (RC (xs.take 99))) := by rw [HX.out]; exact ho0
      clear ho0 b1'
      by_cases hm : xs.length < 99
      · have hmi : (xs.length : Int) < 99 := by omega
        have ho1 : w1.ownsRow w0.heap.size 87 36 v1 (xs.take 99).length (RC (xs.take 99)) := HO1.out
        rw [show (xs.take 99).length = xs.length by rw [List.take_of_length_le (by omega)]] at ho1
        obtain ⟨p1, q1, rfl, -⟩ := own_slice ho1
        have HA : Hid (RcIn w1 p1 xs.length (xs.take 99)) := RcIn.of_own ho1 (fun r hr => HE.out r (List.mem_of_mem_take hr)) (by rw [List.take_of_length_le (by omega)])
        clear ho1 HO1
        have d2 := (b1.out.cell (p := ⟨P, 4 + i, none⟩) M1.out).trans c2
        go_wp2_with fail
        clear d2
        refine (rlall_at (RL.later HRS.out b1.out) hle HNb.out).mono ?_
        rintro r2 w2 ⟨v2, rfl, ho2, b2⟩
        rw [← HX.out] at ho2
        obtain ⟨p2, q2, rfl, hn2, hs2⟩ := own_slice ho2
        have HC : Hid (RcIn w2 p2 xs.length xs) := RcIn.of_own ho2 HE.out rfl
        have hq2 : xs.length ≤ q2 := own_cap ho2
        have B2 : Hid (Below w0.heap.size w0 w2) := below_then b1.out b2
        have HA2 : Hid (RcIn w2 p1 xs.length (xs.take 99)) := HA.out.later b2
        clear HA ho2 b2 b1
        go_wp2_with fail
        refine (same_recs p1 p2 xs.length q1 q2 (xs.take 99) w2 HA2.out (by rw [List.take_of_length_le (by omega)]; exact HC.out) (by omega)).mono ?_
        rintro r3 w3 ⟨rfl, b3⟩
        have HQz : Hid (Sq w3 B P 2 (k + 1)) := (HQ0.out.later (below_then B2.out b3)).more (Nat.le_succ _)
        have HBz : Hid (Below B w w3) := (below_then HB0.out (below_then B2.out b3)).mono hB
        clear HC HA2 B2 b3 hn2 hs2 hq2 HE HX HQ0 HB0 HRS HLS c2 hxl
        go_wp2_with fail
        refine (HQz.out.tells l2 (by omega)).mono ?_
        rintro r9 w9 ⟨rfl, b9⟩
        have HQ9 : Hid (Sq w9 B P 2 (k + 1)) := HQz.out.later b9
        have HB9 : Hid (Below B w w9) := HBz.out.trans (b9.mono HQz.out.B)
        clear b9 HQz HBz
        go_wp2_with fail
        go_ret
        exact ⟨rfl, HQ9.out, HB9.out⟩
      · exact absurd hm (by omega)
    · obtain ⟨m, rfl⟩ := Int.eq_ofNat_of_zero_le (show 0 ≤ b by omega)
      have hm99 : m ≤ 99 := by omega
      go_wp2_with fail
      clear cb c0
      refine (told_any (LD.rdr HLS.out HT0.out) (m : Int) (by omega) (by omega)).mono ?_
      rintro r1 w1 ⟨v1, rfl, ho0, b1'⟩
      have b1 : Hid (Below w0.heap.size w0 w1) := b1'
      have HO1 : Hid (w1.ownsRow w0.heap.size 87 36 v1 (xs.take m).length (RC (xs.take m))) := by rw [HX.out]; exact ho0
      clear ho0 b1'
      by_cases hm : xs.length < m
      · have hmi : (xs.length : Int) < (m : Int) := by omega
        have ho1 : w1.ownsRow w0.heap.size 87 36 v1 (xs.take m).length (RC (xs.take m)) := HO1.out
        rw [show (xs.take m).length = xs.length by rw [List.take_of_length_le (by omega)]] at ho1
        obtain ⟨p1, q1, rfl, -⟩ := own_slice ho1
        have HA : Hid (RcIn w1 p1 xs.length (xs.take m)) := RcIn.of_own ho1 (fun r hr => HE.out r (List.mem_of_mem_take hr)) (by rw [List.take_of_length_le (by omega)])
        clear ho1 HO1
        have d2 := (b1.out.cell (p := ⟨P, 4 + i, none⟩) M1.out).trans c2
        go_wp2_with fail
        clear d2
        refine (rlall_at (RL.later HRS.out b1.out) hle HNb.out).mono ?_
        rintro r2 w2 ⟨v2, rfl, ho2, b2⟩
        rw [← HX.out] at ho2
        obtain ⟨p2, q2, rfl, hn2, hs2⟩ := own_slice ho2
        have HC : Hid (RcIn w2 p2 xs.length xs) := RcIn.of_own ho2 HE.out rfl
        have hq2 : xs.length ≤ q2 := own_cap ho2
        have B2 : Hid (Below w0.heap.size w0 w2) := below_then b1.out b2
        have HA2 : Hid (RcIn w2 p1 xs.length (xs.take m)) := HA.out.later b2
        clear HA ho2 b2 b1
        go_wp2_with fail
        refine (same_recs p1 p2 xs.length q1 q2 (xs.take m) w2 HA2.out (by rw [List.take_of_length_le (by omega)]; exact HC.out) (by omega)).mono ?_
        rintro r3 w3 ⟨rfl, b3⟩
        have HQz : Hid (Sq w3 B P 2 (k + 1)) := (HQ0.out.later (below_then B2.out b3)).more (Nat.le_succ _)
        have HBz : Hid (Below B w w3) := (below_then HB0.out (below_then B2.out b3)).mono hB
        clear HC HA2 B2 b3 hn2 hs2 hq2 HE HX HQ0 HB0 HRS HLS c2 hxl
        go_wp2_with fail
        refine (HQz.out.tells l2 (by omega)).mono ?_
        rintro r9 w9 ⟨rfl, b9⟩
        have HQ9 : Hid (Sq w9 B P 2 (k + 1)) := HQz.out.later b9
        have HB9 : Hid (Below B w w9) := HBz.out.trans (b9.mono HQz.out.B)
        clear b9 HQz HBz
        go_wp2_with fail
        go_ret
        exact ⟨rfl, HQ9.out, HB9.out⟩
      · have hmi : ¬ (xs.length : Int) < (m : Int) := by omega
        have ho1 : w1.ownsRow w0.heap.size 87 36 v1 (xs.take m).length (RC (xs.take m)) := HO1.out
        rw [show (xs.take m).length = m by rw [List.length_take]; omega] at ho1
        obtain ⟨p1, q1, rfl, -⟩ := own_slice ho1
        have HA : Hid (RcIn w1 p1 m (xs.take m)) := RcIn.of_own ho1 (fun r hr => HE.out r (List.mem_of_mem_take hr)) (by rw [List.length_take]; omega)
        clear ho1 HO1
        have d2 := (b1.out.cell (p := ⟨P, 4 + i, none⟩) M1.out).trans c2
        go_wp2_with fail
        clear d2
        refine (rlall_at (RL.later HRS.out b1.out) hle HNb.out).mono ?_
        rintro r2 w2 ⟨v2, rfl, ho2, b2⟩
        rw [← HX.out] at ho2
        obtain ⟨p2, q2, rfl, hn2, hs2⟩ := own_slice ho2
        have HC : Hid (RcIn w2 p2 xs.length xs) := RcIn.of_own ho2 HE.out rfl
        have hq2 : xs.length ≤ q2 := own_cap ho2
        have B2 : Hid (Below w0.heap.size w0 w2) := below_then b1.out b2
        have HA2 : Hid (RcIn w2 p1 m (xs.take m)) := HA.out.later b2
        clear HA ho2 b2 b1
        go_wp2_with fail
        refine (same_recs p1 p2 m q1 q2 (xs.take m) w2 HA2.out (HC.out.take m (by omega)) (by omega)).mono ?_
        rintro r3 w3 ⟨rfl, b3⟩
        have HQz : Hid (Sq w3 B P 2 (k + 1)) := (HQ0.out.later (below_then B2.out b3)).more (Nat.le_succ _)
        have HBz : Hid (Below B w w3) := (below_then HB0.out (below_then B2.out b3)).mono hB
        clear HC HA2 B2 b3 hn2 hs2 hq2 HE HX HQ0 HB0 HRS HLS c2 hxl
        go_wp2_with fail
        refine (HQz.out.tells l2 (by omega)).mono ?_
        rintro r9 w9 ⟨rfl, b9⟩
        have HQ9 : Hid (Sq w9 B P 2 (k + 1)) := HQz.out.later b9
        have HB9 : Hid (Below B w w9) := HBz.out.trans (b9.mono HQz.out.B)
        clear b9 HQz HBz
        go_wp2_with fail
        go_ret
        exact ⟨rfl, HQ9.out, HB9.out⟩
end Go.Proofs.YtmcpjokbkkfgfaaGreatDoor
