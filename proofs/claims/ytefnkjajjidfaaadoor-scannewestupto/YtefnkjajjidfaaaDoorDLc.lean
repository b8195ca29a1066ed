/-
  Contracts of layer 4, third part: settle.
-/
import Derived.Test.YtefnkjajjidfaaaDoorDLb
namespace Go.Proofs.YtefnkjajjidfaaaDoor
open Go.RowKit
/-- what stands while writes become durable -/
structure Mid (w wr : World) (S : Nat → Prop) (p n : Nat) (ws : List Wr) (q cap : Nat) (v : Value) (D N : Nat → List Int) : Prop where
  str : wr.heap[p]? = some (.cells #[.slice (some ⟨q, 0, none⟩) n cap, .slice none 0 0] 105 (0, 0))
  pl : Pl wr q n cap D N
  wt : wr.ownsRow 0 115 65 v ws.length (WC ws)
  kp : Kept S w wr
theorem Mid.below {w wr w' : World} {S : Nat → Prop} {p n : Nat} {ws : List Wr} {q cap : Nat} {v : Value} {D N : Nat → List Int} (h : Mid w wr S p n ws q cap v D N) (hb : Below wr.heap.size wr w') : Mid w w' S p n ws q cap v D N :=
  have hp : p < wr.heap.size := Blk.lt (t := 105) (sz := 2) ⟨_, h.str, rfl⟩
  ⟨(hb.block p hp).trans h.str, h.pl.same (hb.block q h.pl.blk.lt), own_same h.wt (fun _ hk => hb.block _ ((own_ownBlk h.wt hk).elim fun _ hb => hb.lt)), h.kp.trans (T := fun _ => False) (Kept.of_below hb) (fun _ _ f => f.elim)⟩
theorem Mid.cell0 {w wr : World} {S : Nat → Prop} {p n : Nat} {ws : List Wr} {q cap : Nat} {v : Value} {D N : Nat → List Int} (h : Mid w wr S p n ws q cap v D N) : wr.cell? ⟨p, 0, none⟩ = some (.slice (some ⟨q, 0, none⟩) n cap) := by
  rw [cell_of_row _ _ _ _ 105 (0, 0) h.str]; rfl
theorem Mid.set {w wr : World} {S : Nat → Prop} {p n : Nat} {ws : List Wr} {q cap : Nat} {v : Value} {D N D' N' : Nat → List Int} (h : Mid w wr S p n ws q cap v D N) (hq : S q) (o : Nat) (vs : List Value) (hp : Pl (wr.setCells q o vs) q n cap D' N') : Mid w (wr.setCells q o vs) S p n ws q cap v D' N' := by
  have hb3 : Blk wr p 105 2 := ⟨_, h.str, rfl⟩
  have ho : ∀ k, k ≠ q → (wr.setCells q o vs).heap[k]? = wr.heap[k]? := fun k hk => setCells_other hk _ _ _
  refine ⟨(ho p (hb3.ne h.pl.blk (by decide))).trans h.str, hp, own_same h.wt (fun k hk => ?_), Kept.setCells (fun _ => hq) _ _ _ h.kp⟩
  obtain ⟨sz, hk'⟩ := own_ownBlk h.wt hk
  exact ho k (hk'.ne h.pl.blk (by decide))
theorem Mid.start {w : World} {S : Nat → Prop} {p n : Nat} {d : List Int} {ws : List Wr} {q cap : Nat} {v : Value} (h : PD w S p n d ws q cap v) : Mid w (w.setCell ⟨p, 1, none⟩ (.slice none 0 0)) S p n ws q cap v (sec d) (newest ws d) := by
  refine ⟨setCell_row (cs := [_, _]) h.str 1 _, h.pl.same (heap_setCell_other _ _ _ _ (fun e => h.pq e.symm)), own_same h.wt (fun k hk => heap_setCell_other _ _ _ _ (h.pv k hk).1), (Kept.refl S w).setCell (fun _ => h.sp) _⟩
theorem Mid.done {w wr : World} {S : Nat → Prop} {p n : Nat} {d : List Int} {ws : List Wr} {q cap : Nat} {v : Value} {N : Nat → List Int} {K : Nat → Bool} (h : Mid w wr S p n ws q cap v (sec (settle K ws d)) N) (hp : PD w S p n d ws q cap v) (hn : ∀ i, i < n → N i = sec (settle K ws d) i) : Dsk wr S p n (settle K ws d) [] :=
  ⟨q, cap, .slice none 0 0, h.str, h.pl.congr (fun _ _ => rfl) (fun i hi => hn i hi), World.ownsRow_nil _ _ _ _, hp.sp, hp.sq, fun k hk => (by simp [Value.ownBlock] at hk), hp.n1, hp.n2, setl_length hp.dl hp.fit _, setl_bytes hp.db hp.fit _, Fit.nil _⟩
/-- the write number k lies there -/
theorem wt_range {w : World} {v : Value} {ws : List Wr} {n k : Nat} (h : w.ownsRow 0 115 65 v ws.length (WC ws)) (hf : Fit n ws) (hk : k < ws.length) : ∃ g c, v = .slice (some ⟨g, 0, none⟩) ws.length c ∧ w.rangeAt g (k * 65) (wcell ws[k]) := by
  obtain ⟨pv, c, rfl, h0, h1⟩ := own_slice h
  cases pv with
  | none => have := (h0 rfl).1; omega
  | some a =>
    obtain ⟨g, rfl⟩ := h1 a rfl
    refine ⟨g, c, rfl, own_range_part h (fun j u hu => ?_)⟩
    have hj : j < 65 := by
      have := (List.getElem?_eq_some_iff.1 hu).1
      simpa [wcell, (hf.at k hk).2.1] using this
    have e := flat_at (ws.map wcell) (wcell_length hf) k (by simpa using hk) j hj
    rw [Nat.mul_comm] at e
    unfold WC
    rw [e]
    simpa using hu
set_option maxHeartbeats 400000 in
set_option maxRecDepth 100000 in
theorem flush1_any (i : Int) (w : World) : Calls Tryd.prog 74 #[.int .i64 i] w fun e w' => e = .returned (.bool true) ∧ w = w' := by
  go_enter Tryd.func74, Tryd.ntmps74
  go_wp2
  go_ret
  exact ⟨rfl, rfl⟩
set_option maxHeartbeats 4000000 in
set_option maxRecDepth 100000 in
theorem settle_flush {w : World} {S : Nat → Prop} {p n : Nat} {d : List Int} {ws : List Wr} (h : Dsk w S p n d ws) (hk : ws.length ≤ 100000) (K : Nat → Bool) (hKt : ∀ k, K k = true) :
    Calls Tryd.prog 73 #[.pointer (some ⟨p, 0, none⟩), .func (.func 74) #[] #[]] w fun e w' => e = .returned (.int .i64 ws.length) ∧ Dsk w' S p n (settle K ws d) [] ∧ Kept S w w' := by
  obtain ⟨q, cap, v, h⟩ := h
  have h1 := h.cell1
  have hf := h.free 1
  have HH : Hid (PD w S p n d ws q cap v) := h
  have HM : Hid (Mid w (w.setCell ⟨p, 1, none⟩ (.slice none 0 0)) S p n ws q cap v (sec d) (newest ws d)) := Mid.start h
  obtain ⟨pv, cv, rfl, _⟩ := own_slice h.wt
  clear h
  have HK : Hid (∀ k, K k = true) := hKt
  clear hKt
  go_enter Tryd.func73, Tryd.ntmps73
  go_wp2
  clear h1 hf
  go_loopw [20] (fun i wr => ∃ k : Nat, k ≤ ws.length ∧ i = .int .i64 k ∧ Hid (Mid w wr S p n ws q cap (.slice pv ws.length cv) (sec (setl K ws d k)) (newest ws d))) (fun i _ => ws.length - (intOf i).toNat)
  case atStart => exact ⟨0, by omega, rfl, HM.out⟩
  case round =>
    obtain ⟨k, hkl, rfl, HR⟩ := hrel
    by_cases hlt : k < ws.length
    · obtain ⟨g, c', e, hr⟩ := wt_range HR.out.wt HH.out.fit hlt
      simp only [Value.slice.injEq, true_and] at e
      obtain ⟨rfl, rfl⟩ := e
      have HX := HH.out.fit.at k hlt
      have HS : Hid (setl K ws d (k + 1) = if K k then put (setl K ws d k) ws[k].s ws[k].b else setl K ws d k) := setl_step K ws d k hlt
      generalize ws[k] = X at *
      go_wp2_with (first | (refine wpList_load_mid (by rfl) 115 (.tmp 23) (by rfl) g (k * 65) (by rfl) (wcell X) _ hr Tryd.underlying115 rfl (by rw [size80]; simp [wcell, HX.2.1]) ?_) | (refine wpList_alloc80 (by rfl) (by rfl) ?_) | (refine wpList_store80 (by rfl) (.tmp 7) (.tmp 24) (by rfl) X (by rfl) (by rfl) HX.2.1 ?_) | fail)
      have hM := HR.out.below (below_alloc wr (.cells (wcell X).toArray 115))
      have hkk := HK.out k
      refine (flush1_any k _).mono ?_
      rw [← hkk]
      rintro e w1 ⟨rfl, rfl⟩
      cases hKk : K k with
      | false =>
        have HM2 : Hid (Mid w (wr.alloc (.cells (wcell X).toArray 115)) S p n ws q cap (.slice (some ⟨g, 0, none⟩) ws.length cv) (sec (setl K ws d (k + 1))) (newest ws d)) := by
          show Mid _ _ _ _ _ _ _ _ _ _ _
          rw [HS.out, hKk]
          exact hM
        clear hM hr HR HS hKk
        go_wp2
        go_roundw
        case rel => exact ⟨k + 1, by omega, by go_num, HM2.out⟩
        case measure => simp [intOf]; omega
      | true =>
        have t0 := hM.cell0
        have t1 : (wr.alloc (.cells (wcell X).toArray 115)).cell? ⟨wr.heap.size, 0, none⟩ = some (.int .i64 (X.s : Int)) := by
          rw [cell_of_row _ _ _ _ 115 (0, 0) (heap_alloc_new wr _)]; rfl
        have t2 : (wr.alloc (.cells (wcell X).toArray 115)).rangeAt wr.heap.size 1 (U8 X.b) := new_range_at wr _ _ 1 115 (wcell_data X)
        have t3 : (wr.alloc (.cells (wcell X).toArray 115)).there q (X.s * 128) 64 := hM.pl.blk.there _ _ (by have := hM.pl.ncap; omega)
        have HM2 : Hid (Mid w ((wr.alloc (.cells (wcell X).toArray 115)).setCells q (X.s * 128) (U8 X.b)) S p n ws q cap (.slice (some ⟨g, 0, none⟩) ws.length cv) (sec (setl K ws d (k + 1))) (newest ws d)) := by
          show Mid _ _ _ _ _ _ _ _ _ _ _
          rw [HS.out, hKk, if_pos rfl]
          refine hM.set HH.out.sq _ _ ((hM.pl.setD X.b HX.2.1 HX.1).congr (fun i hi => ?_) (fun _ _ => rfl))
          exact (sec_put (setl_length HH.out.dl HH.out.fit k) HX.1 HX.2.1 hi).symm
        have hpq : p ≠ q := HH.out.pq
        have hwq : wr.heap.size ≠ q := by have := HR.out.pl.blk.lt; omega
        have HXl : Hid (X.b.length = 64) := HX.2.1
        have i1 : (X.s : Int) < (n : Int) := by omega
        have i0 : (0 : Int) ≤ (X.s : Int) := by omega
        obtain ⟨W, hW⟩ : ∃ W, wr.alloc (.cells (wcell X).toArray 115) = W := ⟨_, rfl⟩
        rw [hW] at t0 t1 t2 t3 HM2 ⊢
        clear hM hr HR HS hKk HX hW
        go_wp2
        have hu := Tryd.underlying99
        have hl69 : (U8 X.b).length = 64 := by rw [U8_length]; exact HXl.out
        have hi69 : (Tryd.prog.info? 99).map (·.size) = some (U8 X.b).length := by rw [hl69]; exact size69
        have hu1 := ones_u8 X.b
        have k0 : (W.drew.setCells q (X.s * 128) (U8 X.b)).cell? ⟨p, 0, none⟩ = some (.slice (some ⟨q, 0, none⟩) n cap) := by
          rw [World.cell?_setCells_out _ _ _ _ _ (fun e => absurd e hpq)]; exact t0
        have k1 : (W.drew.setCells q (X.s * 128) (U8 X.b)).cell? ⟨wr.heap.size, 0, none⟩ = some (.int .i64 (X.s : Int)) := by
          rw [World.cell?_setCells_out _ _ _ _ _ (fun e => absurd e hwq)]; exact t1
        have k2 : (W.drew.setCells q (X.s * 128) (U8 X.b)).rangeAt wr.heap.size 1 (U8 X.b) := World.rangeAt_setCells_apart (w := W.drew) t2 _ _ _ (Or.inl hwq)
        have k3 : (W.drew.setCells q (X.s * 128) (U8 X.b)).there q (X.s * 128) 64 := World.there_setCells (w := W.drew) t3 _ _ _
        go_region_held3 (fun w' => w'.cell? ⟨p, 0, none⟩ = some (.slice (some ⟨q, 0, none⟩) n cap) ∧ w'.cell? ⟨wr.heap.size, 0, none⟩ = some (.int .i64 (X.s : Int)) ∧ w'.rangeAt wr.heap.size 1 (U8 X.b) ∧ w'.there q (X.s * 128) 64) (first | exact ⟨t0, t1, t2, t3⟩ | exact ⟨k0, k1, k2, k3⟩) (fail)
        clear hu hi69 hl69 hu1 k0 k1 k2 k3 t0 t1 t2 t3
        rw [setCells_drew]
        go_wp2
        go_roundw
        case rel => exact ⟨k + 1, by omega, by go_num, HM2.out.below ⟨rfl, rfl, rfl, Nat.le_refl _, fun _ _ => rfl⟩⟩
        case measure => simp [intOf]; omega
    · obtain rfl : ws.length = k := by omega
      have HR2 : Hid (Mid w wr S p n ws q cap (.slice pv ws.length cv) (sec (settle K ws d)) (fun i => again (settle K ws d) ws d i 0)) := HR.out
      clear HR
      go_wp2
      clear HM
      obtain ⟨w0, hw0⟩ : ∃ w0, w0 = wr := ⟨_, rfl⟩
      subst hw0
      go_loopw [41] (fun i wr => ∃ k : Nat, k ≤ ws.length ∧ i = .int .i64 k ∧ Hid (Mid w wr S p n ws q cap (.slice pv ws.length cv) (sec (settle K ws d)) (fun i => again (settle K ws d) ws d i k))) (fun i _ => ws.length - (intOf i).toNat)
      case atStart => exact ⟨0, by omega, rfl, HR2.out⟩
      case round =>
        obtain ⟨k, hkl2, rfl, HR⟩ := hrel
        by_cases hlt2 : k < ws.length
        · obtain ⟨g, c', e, hr⟩ := wt_range HR.out.wt HH.out.fit hlt2
          simp only [Value.slice.injEq, true_and] at e
          obtain ⟨rfl, rfl⟩ := e
          have HX := HH.out.fit.at k hlt2
          have HS : Hid (∀ i, again (settle K ws d) ws d i (k + 1) = if ws[k].s = i then sec (settle K ws d) i else again (settle K ws d) ws d i k) := fun i => again_step _ ws d i k hlt2
          generalize ws[k] = X at *
          have hM := HR.out.below (below_alloc wr (.cells (wcell X).toArray 115))
          have t0 := hM.cell0
          have t1 : (wr.alloc (.cells (wcell X).toArray 115)).cell? ⟨wr.heap.size, 0, none⟩ = some (.int .i64 (X.s : Int)) := by
            rw [cell_of_row _ _ _ _ 115 (0, 0) (heap_alloc_new wr _)]; rfl
          have HL : Hid ((sec (settle K ws d) X.s).length = 64) := hM.pl.dl X.s HX.1
          have HT : Hid ((wr.alloc (.cells (wcell X).toArray 115)).drew.rangeAt q (X.s * 128) (U8 (sec (settle K ws d) X.s)) ∧ (wr.alloc (.cells (wcell X).toArray 115)).drew.there q (X.s * 128 + 64) 64) := ⟨hM.pl.dur X.s HX.1, hM.pl.blk.there _ _ (by have := hM.pl.ncap; omega)⟩
          have HM2 : Hid (Mid w ((wr.alloc (.cells (wcell X).toArray 115)).setCells q (X.s * 128 + 64) (U8 (sec (settle K ws d) X.s))) S p n ws q cap (.slice (some ⟨g, 0, none⟩) ws.length cv) (sec (settle K ws d)) (fun i => again (settle K ws d) ws d i (k + 1))) := by
            refine hM.set HH.out.sq _ _ ((hM.pl.setN _ HL.out HX.1).congr (fun _ _ => rfl) (fun i hi => ?_))
            show (if i = X.s then _ else _) = again (settle K ws d) ws d i (k + 1)
            rw [HS.out i]
            by_cases c : i = X.s
            · rw [if_pos c, if_pos c.symm, c]
            · rw [if_neg c, if_neg (fun e => c e.symm)]
          have i1 : (X.s : Int) < (n : Int) := by omega
          have i0 : (0 : Int) ≤ (X.s : Int) := by omega
          clear hM HR HS
          generalize sec (settle K ws d) X.s = B at *
          go_wp2_with (first | (refine wpList_load_mid (by rfl) 115 (.tmp 43) (by rfl) g (k * 65) (by rfl) (wcell X) _ hr Tryd.underlying115 rfl (by rw [size80]; simp [wcell, HX.2.1]) ?_) | (refine wpList_alloc80 (by rfl) (by rfl) ?_) | (refine wpList_store80 (by rfl) (.tmp 9) (.tmp 44) (by rfl) X (by rfl) (by rfl) HX.2.1 ?_) | fail)
          simp only [Act.put, List.setIfInBounds_toArray, List.set_cons_zero, List.set_cons_succ]
          obtain ⟨W, hW⟩ : ∃ W, wr.alloc (.cells (wcell X).toArray 115) = W := ⟨_, rfl⟩
          rw [hW] at t0 t1 HT HM2 ⊢
          clear hW hr
          go_region_held3 (fun w' => w'.cell? ⟨p, 0, none⟩ = some (.slice (some ⟨q, 0, none⟩) n cap) ∧ w'.cell? ⟨wr.heap.size, 0, none⟩ = some (.int .i64 (X.s : Int))) (exact ⟨t0, t1⟩) (fail)
          clear t0 t1
          go_wp2_with (first | (refine wpList_load_mid (by rfl) 99 (.tmp 55) (by rfl) q (X.s * 128) (by rfl) (U8 B) _ HT.out.1 Tryd.underlying99 rfl (by rw [size69, U8_length, HL.out]) ?_) | (refine wpList_store_mid (by rfl) 99 (.tmp 58) (.tmp 56) (by rfl) q (X.s * 128 + 64) (U8 B).toArray (by rfl) (by rfl) (by rw [List.size_toArray, U8_length, HL.out]; exact HT.out.2) (by rw [size69, List.size_toArray, U8_length, HL.out]) (u8_ones B) ?_) | fail)
          rw [setCells_drew]
          go_roundw
          case rel => exact ⟨k + 1, by omega, by go_num, HM2.out.below ⟨rfl, rfl, rfl, Nat.le_refl _, fun _ _ => rfl⟩⟩
          case measure => simp [intOf]; omega
        · obtain rfl : ws.length = k := by omega
          have HD : Hid (Dsk wr S p n (settle K ws d) [] ∧ Kept S w wr) := ⟨HR.out.done HH.out (fun i hi => again_all HH.out.dl HH.out.fit hi), HR.out.kp⟩
          clear HR HR2
          go_wp2
          go_ret
          exact ⟨rfl, HD.out.1, HD.out.2⟩
end Go.Proofs.YtefnkjajjidfaaaDoor
