/-
  Contracts of layer 4, third part: settle.
-/
import Derived.Test.YtmcpjokbkkfgfaaGreatDoorT08
namespace Go.Proofs.YtmcpjokbkkfgfaaGreatDoor
open Go.RowKit
/-- what stands while writes become durable -/
structure Mid (w wr : World) (S : Nat → Prop) (p n : Nat) (ws : List Wr) (q cap : Nat) (v : Value) (D N : Nat → List Int) : Prop where
  str : wr.heap[p]? = some (.cells #[.slice (some ⟨q, 0, none⟩) n cap, .slice none 0 0] 76 (0, 0))
  pl : Pl wr q n cap D N
  wt : wr.ownsRow 0 127 65 v ws.length (WC ws)
  kp : Kept S w wr
theorem Mid.below {w wr w' : World} {S : Nat → Prop} {p n : Nat} {ws : List Wr} {q cap : Nat} {v : Value} {D N : Nat → List Int} (h : Mid w wr S p n ws q cap v D N) (hb : Below wr.heap.size wr w') : Mid w w' S p n ws q cap v D N :=
  have hp : p < wr.heap.size := Blk.lt (t := 76) (sz := 2) ⟨_, h.str, rfl⟩
  ⟨(hb.block p hp).trans h.str, h.pl.same (hb.block q h.pl.blk.lt), own_same h.wt (fun _ hk => hb.block _ ((own_ownBlk h.wt hk).elim fun _ hb => hb.lt)), h.kp.trans (T := fun _ => False) (Kept.of_below hb) (fun _ _ f => f.elim)⟩
theorem Mid.cell0 {w wr : World} {S : Nat → Prop} {p n : Nat} {ws : List Wr} {q cap : Nat} {v : Value} {D N : Nat → List Int} (h : Mid w wr S p n ws q cap v D N) : wr.cell? ⟨p, 0, none⟩ = some (.slice (some ⟨q, 0, none⟩) n cap) := by
  rw [cell_of_row _ _ _ _ 76 (0, 0) h.str]; rfl
theorem Mid.set {w wr : World} {S : Nat → Prop} {p n : Nat} {ws : List Wr} {q cap : Nat} {v : Value} {D N D' N' : Nat → List Int} (h : Mid w wr S p n ws q cap v D N) (hq : S q) (o : Nat) (vs : List Value) (hp : Pl (wr.setCells q o vs) q n cap D' N') : Mid w (wr.setCells q o vs) S p n ws q cap v D' N' := by
  have hb3 : Blk wr p 76 2 := ⟨_, h.str, rfl⟩
  have ho : ∀ k, k ≠ q → (wr.setCells q o vs).heap[k]? = wr.heap[k]? := fun k hk => setCells_other hk _ _ _
  refine ⟨(ho p (hb3.ne h.pl.blk (by decide))).trans h.str, hp, own_same h.wt (fun k hk => ?_), Kept.setCells (fun _ => hq) _ _ _ h.kp⟩
  obtain ⟨sz, hk'⟩ := own_ownBlk h.wt hk
  exact ho k (hk'.ne h.pl.blk (by decide))
theorem Mid.start {w : World} {S : Nat → Prop} {p n : Nat} {d : List Int} {ws : List Wr} {q cap : Nat} {v : Value} (h : PD w S p n d ws q cap v) : Mid w (w.setCell ⟨p, 1, none⟩ (.slice none 0 0)) S p n ws q cap v (sec d) (newest ws d) := by
  refine ⟨setCell_row (cs := [_, _]) h.str 1 _, h.pl.same (heap_setCell_other _ _ _ _ (fun e => h.pq e.symm)), own_same h.wt (fun k hk => heap_setCell_other _ _ _ _ (h.pv k hk).1), (Kept.refl S w).setCell (fun _ => h.sp) _⟩
theorem Mid.done {w wr : World} {S : Nat → Prop} {p n : Nat} {d : List Int} {ws : List Wr} {q cap : Nat} {v : Value} {N : Nat → List Int} {K : Nat → Bool} (h : Mid w wr S p n ws q cap v (sec (settle K ws d)) N) (hp : PD w S p n d ws q cap v) (hn : ∀ i, i < n → N i = sec (settle K ws d) i) : Dsk wr S p n (settle K ws d) [] :=
  ⟨q, cap, .slice none 0 0, h.str, h.pl.congr (fun _ _ => rfl) (fun i hi => hn i hi), World.ownsRow_nil _ _ _ _, hp.sp, hp.sq, fun k hk => (by simp [Value.ownBlock] at hk), hp.n1, hp.n2, setl_length hp.dl hp.fit _, setl_bytes hp.db hp.fit _, Fit.nil _⟩
/-- the write number k lies there -/
theorem wt_range {w : World} {v : Value} {ws : List Wr} {n k : Nat} (h : w.ownsRow 0 127 65 v ws.length (WC ws)) (hf : Fit n ws) (hk : k < ws.length) : ∃ g c, v = .slice (some ⟨g, 0, none⟩) ws.length c ∧ w.rangeAt g (k * 65) (wcell ws[k]) := by
  obtain ⟨pv, c, rfl, h0, h1⟩ := own_slice h
  cases pv with
  | none => have := (h0 rfl).1; omega
  | some a =>
    obtain ⟨g, rfl⟩ := h1 a rfl
    refine ⟨g, c, rfl, own_range_part h (fun j u hu => ?_)⟩
    have hj : j < 65 := by
      have := (List.getElem?_eq_some_iff.1 hu).1
      simpa [wcell, (hf.at k hk).2.1] using this
    have e := flat_at (ws.map wcell) (wcell_length hf) k (by simpa using hk) j hj
    rw [Nat.mul_comm] at e
    unfold WC
    rw [e]
    simpa using hu
set_option maxHeartbeats 400000 in
set_option maxRecDepth 100000 in
theorem flush1_any (i : Int) (w : World) : Calls Tryz.prog 73 #[.int .i64 i] w fun e w' => e = .returned (.bool true) ∧ w = w' := by
  go_enter Tryz.func73, Tryz.ntmps73
  go_wp2
  go_ret
  exact ⟨rfl, rfl⟩
/-- how the numbers that are kept lie -/
structure Keeps (w : World) (c g m : Nat) (K : Nat → Bool) : Prop where
  box : w.heap[c]? = some (.cells #[.slice (some ⟨g, 0, none⟩) m m] 165 (0, 0))
  row : w.heap[g]? = some (.cells ((List.range m).map fun i => Value.bool (K i)).toArray 4 (0, 0))
theorem Keeps.kept {w w' : World} {S : Nat → Prop} {c g m : Nat} {K : Nat → Bool} (h : Keeps w c g m K) (hk : Kept S w w') (h1 : ¬ S c) (h2 : ¬ S g) : Keeps w' c g m K :=
  ⟨(hk.block c (Array.getElem?_eq_some_iff.1 h.box).1 h1).trans h.box, (hk.block g (Array.getElem?_eq_some_iff.1 h.row).1 h2).trans h.row⟩
set_option maxHeartbeats 400000 in
set_option maxRecDepth 100000 in
theorem crash1_any (i m c g : Nat) (K : Nat → Bool) (w : World) (h : Keeps w c g m K) (hi : i < m) : Calls Tryz.prog 89 #[.int .i64 i, .pointer (some ⟨c, 0, none⟩)] w fun e w' => e = .returned (.bool (K i)) ∧ w = w' := by
  have c0 : w.cell? ⟨c, 0, none⟩ = some (.slice (some ⟨g, 0, none⟩) m m) := by rw [cell_of_row _ _ _ _ _ _ h.box]; rfl
  have c1 : w.cell? ⟨g, i, none⟩ = some (.bool (K i)) := by rw [cell_of_row _ _ _ _ _ _ h.row]; simp [hi]
  clear h
  generalize K i = kk at *
  go_enter Tryz.func89, Tryz.ntmps89
  go_wp2
  go_ret
  exact ⟨rfl, rfl⟩
set_option maxHeartbeats 4000000 in
set_option maxRecDepth 100000 in
theorem settle_flush {w : World} {S : Nat → Prop} {p n : Nat} {d : List Int} {ws : List Wr} (h : Dsk w S p n d ws) (hk : ws.length ≤ 100000) (K : Nat → Bool) (hKt : ∀ k, K k = true) :
    Calls Tryz.prog 72 #[.pointer (some ⟨p, 0, none⟩), .func (.func 73) #[] #[]] w fun e w' => e = .returned (.int .i64 ws.length) ∧ Dsk w' S p n (settle K ws d) [] ∧ Kept S w w' := by
  obtain ⟨q, cap, v, h⟩ := h
  have h1 := h.cell1
  have hf := h.free 1
  have HH : Hid (PD w S p n d ws q cap v) := h
  have HM : Hid (Mid w (w.setCell ⟨p, 1, none⟩ (.slice none 0 0)) S p n ws q cap v (sec d) (newest ws d)) := Mid.start h
  obtain ⟨pv, cv, rfl, _⟩ := own_slice h.wt
  clear h
  have HK : Hid (∀ k, K k = true) := hKt
  clear hKt
  go_enter Tryz.func72, Tryz.ntmps72
  go_wp2
  clear h1 hf
  go_loopw [20] (fun i wr => ∃ k : Nat, k ≤ ws.length ∧ i = .int .i64 k ∧ Hid (Mid w wr S p n ws q cap (.slice pv ws.length cv) (sec (setl K ws d k)) (newest ws d))) (fun i _ => ws.length - (intOf i).toNat)
  case atStart => exact ⟨0, by omega, rfl, HM.out⟩
  case round =>
    obtain ⟨k, hkl, rfl, HR⟩ := hrel
    by_cases hlt : k < ws.length
    · obtain ⟨g, c', e, hr⟩ := wt_range HR.out.wt HH.out.fit hlt
      simp only [Value.slice.injEq, true_and] at e
      obtain ⟨rfl, rfl⟩ := e
      have HX := HH.out.fit.at k hlt
      have HS : Hid (setl K ws d (k + 1) = if K k then put (setl K ws d k) ws[k].s ws[k].b else setl K ws d k) := setl_step K ws d k hlt
      generalize ws[k] = X at *
      go_wp2_with (first | (refine wpList_load_mid (by rfl) 127 (.tmp 23) (by rfl) g (k * 65) (by rfl) (wcell X) _ hr Tryz.underlying127 rfl (by rw [size80]; simp [wcell, HX.2.1]) ?_) | (refine wpList_alloc80 (by rfl) (by rfl) ?_) | (refine wpList_store80 (by rfl) (.tmp 7) (.tmp 24) (by rfl) X (by rfl) (by rfl) HX.2.1 ?_) | fail)
      have hM := HR.out.below (below_alloc wr (.cells (wcell X).toArray 127))
      have hkk := HK.out k
      refine (flush1_any k _).mono ?_
      rw [← hkk]
      rintro e w1 ⟨rfl, rfl⟩
      cases hKk : K k with
      | false =>
        have HM2 : Hid (Mid w (wr.alloc (.cells (wcell X).toArray 127)) S p n ws q cap (.slice (some ⟨g, 0, none⟩) ws.length cv) (sec (setl K ws d (k + 1))) (newest ws d)) := by
          show Mid _ _ _ _ _ _ _ _ _ _ _
          rw [HS.out, hKk]
          exact hM
        clear hM hr HR HS hKk
        go_wp2
        go_roundw
        case rel => exact ⟨k + 1, by omega, by go_num, HM2.out⟩
        case measure => simp [intOf]; omega
      | true =>
        have t0 := hM.cell0
        have t1 : (wr.alloc (.cells (wcell X).toArray 127)).cell? ⟨wr.heap.size, 0, none⟩ = some (.int .i64 (X.s : Int)) := by
          rw [cell_of_row _ _ _ _ 127 (0, 0) (heap_alloc_new wr _)]; rfl
        have t2 : (wr.alloc (.cells (wcell X).toArray 127)).rangeAt wr.heap.size 1 (U8 X.b) := new_range_at wr _ _ 1 127 (wcell_data X)
        have t3 : (wr.alloc (.cells (wcell X).toArray 127)).there q (X.s * 128) 64 := hM.pl.blk.there _ _ (by have := hM.pl.ncap; omega)
        have HM2 : Hid (Mid w ((wr.alloc (.cells (wcell X).toArray 127)).setCells q (X.s * 128) (U8 X.b)) S p n ws q cap (.slice (some ⟨g, 0, none⟩) ws.length cv) (sec (setl K ws d (k + 1))) (newest ws d)) := by
          show Mid _ _ _ _ _ _ _ _ _ _ _
          rw [HS.out, hKk, if_pos rfl]
          refine hM.set HH.out.sq _ _ ((hM.pl.setD X.b HX.2.1 HX.1).congr (fun i hi => ?_) (fun _ _ => rfl))
          exact (sec_put (setl_length HH.out.dl HH.out.fit k) HX.1 HX.2.1 hi).symm
        have hpq : p ≠ q := HH.out.pq
        have hwq : wr.heap.size ≠ q := by have := HR.out.pl.blk.lt; omega
        have HXl : Hid (X.b.length = 64) := HX.2.1
        have i1 : (X.s : Int) < (n : Int) := by omega
        have i0 : (0 : Int) ≤ (X.s : Int) := by omega
        obtain ⟨W, hW⟩ : ∃ W, wr.alloc (.cells (wcell X).toArray 127) = W := ⟨_, rfl⟩
        rw [hW] at t0 t1 t2 t3 HM2 ⊢
        clear hM hr HR HS hKk HX hW
        go_wp2
        have hu := Tryz.underlying122
        have hl69 : (U8 X.b).length = 64 := by rw [U8_length]; exact HXl.out
        have hi69 : (Tryz.prog.info? 122).map (·.size) = some (U8 X.b).length := by rw [hl69]; exact size69
        have hu1 := ones_u8 X.b
        have k0 : (W.drew.setCells q (X.s * 128) (U8 X.b)).cell? ⟨p, 0, none⟩ = some (.slice (some ⟨q, 0, none⟩) n cap) := by
          rw [World.cell?_setCells_out _ _ _ _ _ (fun e => absurd e hpq)]; exact t0
        have k1 : (W.drew.setCells q (X.s * 128) (U8 X.b)).cell? ⟨wr.heap.size, 0, none⟩ = some (.int .i64 (X.s : Int)) := by
          rw [World.cell?_setCells_out _ _ _ _ _ (fun e => absurd e hwq)]; exact t1
        have k2 : (W.drew.setCells q (X.s * 128) (U8 X.b)).rangeAt wr.heap.size 1 (U8 X.b) := World.rangeAt_setCells_apart (w := W.drew) t2 _ _ _ (Or.inl hwq)
        have k3 : (W.drew.setCells q (X.s * 128) (U8 X.b)).there q (X.s * 128) 64 := World.there_setCells (w := W.drew) t3 _ _ _
        go_region_held3 (fun w' => w'.cell? ⟨p, 0, none⟩ = some (.slice (some ⟨q, 0, none⟩) n cap) ∧ w'.cell? ⟨wr.heap.size, 0, none⟩ = some (.int .i64 (X.s : Int)) ∧ w'.rangeAt wr.heap.size 1 (U8 X.b) ∧ w'.there q (X.s * 128) 64) (first | exact ⟨t0, t1, t2, t3⟩ | exact ⟨k0, k1, k2, k3⟩) (fail)
        clear hu hi69 hl69 hu1 k0 k1 k2 k3 t0 t1 t2 t3
        rw [setCells_drew]
        go_wp2
        go_roundw
        case rel => exact ⟨k + 1, by omega, by go_num, HM2.out.below ⟨rfl, rfl, rfl, Nat.le_refl _, fun _ _ => rfl⟩⟩
        case measure => simp [intOf]; omega
    · obtain rfl : ws.length = k := by omega
      have HR2 : Hid (Mid w wr S p n ws q cap (.slice pv ws.length cv) (sec (settle K ws d)) (fun i => again (settle K ws d) ws d i 0)) := HR.out
      clear HR
      go_wp2
      clear HM
      obtain ⟨w0, hw0⟩ : ∃ w0, w0 = wr := ⟨_, rfl⟩
      subst hw0
      go_loopw [41] (fun i wr => ∃ k : Nat, k ≤ ws.length ∧ i = .int .i64 k ∧ Hid (Mid w wr S p n ws q cap (.slice pv ws.length cv) (sec (settle K ws d)) (fun i => again (settle K ws d) ws d i k))) (fun i _ => ws.length - (intOf i).toNat)
      case atStart => exact ⟨0, by omega, rfl, HR2.out⟩
      case round =>
        obtain ⟨k, hkl2, rfl, HR⟩ := hrel
        by_cases hlt2 : k < ws.length
        · obtain ⟨g, c', e, hr⟩ := wt_range HR.out.wt HH.out.fit hlt2
          simp only [Value.slice.injEq, true_and] at e
          obtain ⟨rfl, rfl⟩ := e
          have HX := HH.out.fit.at k hlt2
          have HS : Hid (∀ i, again (settle K ws d) ws d i (k + 1) = if ws[k].s = i then sec (settle K ws d) i else again (settle K ws d) ws d i k) := fun i => again_step _ ws d i k hlt2
          generalize ws[k] = X at *
          have hM := HR.out.below (below_alloc wr (.cells (wcell X).toArray 127))
          have t0 := hM.cell0
          have t1 : (wr.alloc (.cells (wcell X).toArray 127)).cell? ⟨wr.heap.size, 0, none⟩ = some (.int .i64 (X.s : Int)) := by
            rw [cell_of_row _ _ _ _ 127 (0, 0) (heap_alloc_new wr _)]; rfl
          have HL : Hid ((sec (settle K ws d) X.s).length = 64) := hM.pl.dl X.s HX.1
          have HT : Hid ((wr.alloc (.cells (wcell X).toArray 127)).drew.rangeAt q (X.s * 128) (U8 (sec (settle K ws d) X.s)) ∧ (wr.alloc (.cells (wcell X).toArray 127)).drew.there q (X.s * 128 + 64) 64) := ⟨hM.pl.dur X.s HX.1, hM.pl.blk.there _ _ (by have := hM.pl.ncap; omega)⟩
          have HM2 : Hid (Mid w ((wr.alloc (.cells (wcell X).toArray 127)).setCells q (X.s * 128 + 64) (U8 (sec (settle K ws d) X.s))) S p n ws q cap (.slice (some ⟨g, 0, none⟩) ws.length cv) (sec (settle K ws d)) (fun i => again (settle K ws d) ws d i (k + 1))) := by
            refine hM.set HH.out.sq _ _ ((hM.pl.setN _ HL.out HX.1).congr (fun _ _ => rfl) (fun i hi => ?_))
            show (if i = X.s then _ else _) = again (settle K ws d) ws d i (k + 1)
            rw [HS.out i]
            by_cases c : i = X.s
            · rw [if_pos c, if_pos c.symm, c]
            · rw [if_neg c, if_neg (fun e => c e.symm)]
          have i1 : (X.s : Int) < (n : Int) := by omega
          have i0 : (0 : Int) ≤ (X.s : Int) := by omega
          clear hM HR HS
          generalize sec (settle K ws d) X.s = B at *
          go_wp2_with (first | (refine wpList_load_mid (by rfl) 127 (.tmp 43) (by rfl) g (k * 65) (by rfl) (wcell X) _ hr Tryz.underlying127 rfl (by rw [size80]; simp [wcell, HX.2.1]) ?_) | (refine wpList_alloc80 (by rfl) (by rfl) ?_) | (refine wpList_store80 (by rfl) (.tmp 9) (.tmp 44) (by rfl) X (by rfl) (by rfl) HX.2.1 ?_) | fail)
          simp only [Act.put, List.setIfInBounds_toArray, List.set_cons_zero, List.set_cons_succ]
          obtain ⟨W, hW⟩ : ∃ W, wr.alloc (.cells (wcell X).toArray 127) = W := ⟨_, rfl⟩
          rw [hW] at t0 t1 HT HM2 ⊢
          clear hW hr
          go_region_held3 (fun w' => w'.cell? ⟨p, 0, none⟩ = some (.slice (some ⟨q, 0, none⟩) n cap) ∧ w'.cell? ⟨wr.heap.size, 0, none⟩ = some (.int .i64 (X.s : Int))) (exact ⟨t0, t1⟩) (fail)
          clear t0 t1
          go_wp2_with (first | (refine wpList_load_mid (by rfl) 122 (.tmp 55) (by rfl) q (X.s * 128) (by rfl) (U8 B) _ HT.out.1 Tryz.underlying122 rfl (by rw [size69, U8_length, HL.out]) ?_) | (refine wpList_store_mid (by rfl) 122 (.tmp 58) (.tmp 56) (by rfl) q (X.s * 128 + 64) (U8 B).toArray (by rfl) (by rfl) (by rw [List.size_toArray, U8_length, HL.out]; exact HT.out.2) (by rw [size69, List.size_toArray, U8_length, HL.out]) (u8_ones B) ?_) | fail)
          rw [setCells_drew]
          go_roundw
          case rel => exact ⟨k + 1, by omega, by go_num, HM2.out.below ⟨rfl, rfl, rfl, Nat.le_refl _, fun _ _ => rfl⟩⟩
          case measure => simp [intOf]; omega
        · obtain rfl : ws.length = k := by omega
          have HD : Hid (Dsk wr S p n (settle K ws d) [] ∧ Kept S w wr) := ⟨HR.out.done HH.out (fun i hi => again_all HH.out.dl HH.out.fit hi), HR.out.kp⟩
          clear HR HR2
          go_wp2
          go_ret
          exact ⟨rfl, HD.out.1, HD.out.2⟩
set_option maxHeartbeats 4000000 in
set_option maxRecDepth 100000 in
theorem settle_crash {w : World} {S : Nat → Prop} {p n : Nat} {d : List Int} {ws : List Wr} (h : Dsk w S p n d ws) (hk : ws.length ≤ 100000) (K : Nat → Bool) (c0 g0 m0 : Nat) (hks : Keeps w c0 g0 m0 K) (hS1 : ¬ S c0) (hS2 : ¬ S g0) (hm0 : ws.length ≤ m0) :
    Calls Tryz.prog 72 #[.pointer (some ⟨p, 0, none⟩), .func (.func 89) #[] #[.pointer (some ⟨c0, 0, none⟩)]] w fun e w' => e = .returned (.int .i64 ws.length) ∧ Dsk w' S p n (settle K ws d) [] ∧ Kept S w w' := by
  obtain ⟨q, cap, v, h⟩ := h
  have h1 := h.cell1
  have hf := h.free 1
  have HH : Hid (PD w S p n d ws q cap v) := h
  have HM : Hid (Mid w (w.setCell ⟨p, 1, none⟩ (.slice none 0 0)) S p n ws q cap v (sec d) (newest ws d)) := Mid.start h
  obtain ⟨pv, cv, rfl, _⟩ := own_slice h.wt
  clear h
  have HK : Hid (Keeps w c0 g0 m0 K ∧ ¬ S c0 ∧ ¬ S g0) := ⟨hks, hS1, hS2⟩
  clear hks hS1 hS2
  go_enter Tryz.func72, Tryz.ntmps72
  go_wp2
  clear h1 hf
  go_loopw [20] (fun i wr => ∃ k : Nat, k ≤ ws.length ∧ i = .int .i64 k ∧ Hid (Mid w wr S p n ws q cap (.slice pv ws.length cv) (sec (setl K ws d k)) (newest ws d))) (fun i _ => ws.length - (intOf i).toNat)
  case atStart => exact ⟨0, by omega, rfl, HM.out⟩
  case round =>
    obtain ⟨k, hkl, rfl, HR⟩ := hrel
    by_cases hlt : k < ws.length
    · obtain ⟨g, c', e, hr⟩ := wt_range HR.out.wt HH.out.fit hlt
      simp only [Value.slice.injEq, true_and] at e
      obtain ⟨rfl, rfl⟩ := e
      have HX := HH.out.fit.at k hlt
      have HS : Hid (setl K ws d (k + 1) = if K k then put (setl K ws d k) ws[k].s ws[k].b else setl K ws d k) := setl_step K ws d k hlt
      generalize ws[k] = X at *
      go_wp2_with (first | (refine wpList_load_mid (by rfl) 127 (.tmp 23) (by rfl) g (k * 65) (by rfl) (wcell X) _ hr Tryz.underlying127 rfl (by rw [size80]; simp [wcell, HX.2.1]) ?_) | (refine wpList_alloc80 (by rfl) (by rfl) ?_) | (refine wpList_store80 (by rfl) (.tmp 7) (.tmp 24) (by rfl) X (by rfl) (by rfl) HX.2.1 ?_) | fail)
      have hM := HR.out.below (below_alloc wr (.cells (wcell X).toArray 127))
      refine (crash1_any k m0 c0 g0 K _ (HK.out.1.kept hM.kp HK.out.2.1 HK.out.2.2) (by omega)).mono ?_
      rintro e w1 ⟨rfl, rfl⟩
      cases hKk : K k with
      | false =>
        have HM2 : Hid (Mid w (wr.alloc (.cells (wcell X).toArray 127)) S p n ws q cap (.slice (some ⟨g, 0, none⟩) ws.length cv) (sec (setl K ws d (k + 1))) (newest ws d)) := by
          show Mid _ _ _ _ _ _ _ _ _ _ _
          rw [HS.out, hKk]
          exact hM
        clear hM hr HR HS hKk
        go_wp2
        go_roundw
        case rel => exact ⟨k + 1, by omega, by go_num, HM2.out⟩
        case measure => simp [intOf]; omega
      | true =>
        have t0 := hM.cell0
        have t1 : (wr.alloc (.cells (wcell X).toArray 127)).cell? ⟨wr.heap.size, 0, none⟩ = some (.int .i64 (X.s : Int)) := by
          rw [cell_of_row _ _ _ _ 127 (0, 0) (heap_alloc_new wr _)]; rfl
        have t2 : (wr.alloc (.cells (wcell X).toArray 127)).rangeAt wr.heap.size 1 (U8 X.b) := new_range_at wr _ _ 1 127 (wcell_data X)
        have t3 : (wr.alloc (.cells (wcell X).toArray 127)).there q (X.s * 128) 64 := hM.pl.blk.there _ _ (by have := hM.pl.ncap; omega)
        have HM2 : Hid (Mid w ((wr.alloc (.cells (wcell X).toArray 127)).setCells q (X.s * 128) (U8 X.b)) S p n ws q cap (.slice (some ⟨g, 0, none⟩) ws.length cv) (sec (setl K ws d (k + 1))) (newest ws d)) := by
          show Mid _ _ _ _ _ _ _ _ _ _ _
          rw [HS.out, hKk, if_pos rfl]
          refine hM.set HH.out.sq _ _ ((hM.pl.setD X.b HX.2.1 HX.1).congr (fun i hi => ?_) (fun _ _ => rfl))
          exact (sec_put (setl_length HH.out.dl HH.out.fit k) HX.1 HX.2.1 hi).symm
        have hpq : p ≠ q := HH.out.pq
        have hwq : wr.heap.size ≠ q := by have := HR.out.pl.blk.lt; omega
        have HXl : Hid (X.b.length = 64) := HX.2.1
        have i1 : (X.s : Int) < (n : Int) := by omega
        have i0 : (0 : Int) ≤ (X.s : Int) := by omega
        obtain ⟨W, hW⟩ : ∃ W, wr.alloc (.cells (wcell X).toArray 127) = W := ⟨_, rfl⟩
        rw [hW] at t0 t1 t2 t3 HM2 ⊢
        clear hM hr HR HS hKk HX hW
        go_wp2
        have hu := Tryz.underlying122
        have hl69 : (U8 X.b).length = 64 := by rw [U8_length]; exact HXl.out
        have hi69 : (Tryz.prog.info? 122).map (·.size) = some (U8 X.b).length := by rw [hl69]; exact size69
        have hu1 := ones_u8 X.b
        have k0 : (W.drew.setCells q (X.s * 128) (U8 X.b)).cell? ⟨p, 0, none⟩ = some (.slice (some ⟨q, 0, none⟩) n cap) := by
          rw [World.cell?_setCells_out _ _ _ _ _ (fun e => absurd e hpq)]; exact t0
        have k1 : (W.drew.setCells q (X.s * 128) (U8 X.b)).cell? ⟨wr.heap.size, 0, none⟩ = some (.int .i64 (X.s : Int)) := by
          rw [World.cell?_setCells_out _ _ _ _ _ (fun e => absurd e hwq)]; exact t1
        have k2 : (W.drew.setCells q (X.s * 128) (U8 X.b)).rangeAt wr.heap.size 1 (U8 X.b) := World.rangeAt_setCells_apart (w := W.drew) t2 _ _ _ (Or.inl hwq)
        have k3 : (W.drew.setCells q (X.s * 128) (U8 X.b)).there q (X.s * 128) 64 := World.there_setCells (w := W.drew) t3 _ _ _
        go_region_held3 (fun w' => w'.cell? ⟨p, 0, none⟩ = some (.slice (some ⟨q, 0, none⟩) n cap) ∧ w'.cell? ⟨wr.heap.size, 0, none⟩ = some (.int .i64 (X.s : Int)) ∧ w'.rangeAt wr.heap.size 1 (U8 X.b) ∧ w'.there q (X.s * 128) 64) (first | exact ⟨t0, t1, t2, t3⟩ | exact ⟨k0, k1, k2, k3⟩) (fail)
        clear hu hi69 hl69 hu1 k0 k1 k2 k3 t0 t1 t2 t3
        rw [setCells_drew]
        go_wp2
        go_roundw
        case rel => exact ⟨k + 1, by omega, by go_num, HM2.out.below ⟨rfl, rfl, rfl, Nat.le_refl _, fun _ _ => rfl⟩⟩
        case measure => simp [intOf]; omega
    · obtain rfl : ws.length = k := by omega
      have HR2 : Hid (Mid w wr S p n ws q cap (.slice pv ws.length cv) (sec (settle K ws d)) (fun i => again (settle K ws d) ws d i 0)) := HR.out
      clear HR
      go_wp2
      clear HM
      obtain ⟨w0, hw0⟩ : ∃ w0, w0 = wr := ⟨_, rfl⟩
      subst hw0
      go_loopw [41] (fun i wr => ∃ k : Nat, k ≤ ws.length ∧ i = .int .i64 k ∧ Hid (Mid w wr S p n ws q cap (.slice pv ws.length cv) (sec (settle K ws d)) (fun i => again (settle K ws d) ws d i k))) (fun i _ => ws.length - (intOf i).toNat)
      case atStart => exact ⟨0, by omega, rfl, HR2.out⟩
      case round =>
        obtain ⟨k, hkl2, rfl, HR⟩ := hrel
        by_cases hlt2 : k < ws.length
        · obtain ⟨g, c', e, hr⟩ := wt_range HR.out.wt HH.out.fit hlt2
          simp only [Value.slice.injEq, true_and] at e
          obtain ⟨rfl, rfl⟩ := e
          have HX := HH.out.fit.at k hlt2
          have HS : Hid (∀ i, again (settle K ws d) ws d i (k + 1) = if ws[k].s = i then sec (settle K ws d) i else again (settle K ws d) ws d i k) := fun i => again_step _ ws d i k hlt2
          generalize ws[k] = X at *
          have hM := HR.out.below (below_alloc wr (.cells (wcell X).toArray 127))
          have t0 := hM.cell0
          have t1 : (wr.alloc (.cells (wcell X).toArray 127)).cell? ⟨wr.heap.size, 0, none⟩ = some (.int .i64 (X.s : Int)) := by
            rw [cell_of_row _ _ _ _ 127 (0, 0) (heap_alloc_new wr _)]; rfl
          have HL : Hid ((sec (settle K ws d) X.s).length = 64) := hM.pl.dl X.s HX.1
          have HT : Hid ((wr.alloc (.cells (wcell X).toArray 127)).drew.rangeAt q (X.s * 128) (U8 (sec (settle K ws d) X.s)) ∧ (wr.alloc (.cells (wcell X).toArray 127)).drew.there q (X.s * 128 + 64) 64) := ⟨hM.pl.dur X.s HX.1, hM.pl.blk.there _ _ (by have := hM.pl.ncap; omega)⟩
          have HM2 : Hid (Mid w ((wr.alloc (.cells (wcell X).toArray 127)).setCells q (X.s * 128 + 64) (U8 (sec (settle K ws d) X.s))) S p n ws q cap (.slice (some ⟨g, 0, none⟩) ws.length cv) (sec (settle K ws d)) (fun i => again (settle K ws d) ws d i (k + 1))) := by
            refine hM.set HH.out.sq _ _ ((hM.pl.setN _ HL.out HX.1).congr (fun _ _ => rfl) (fun i hi => ?_))
            show (if i = X.s then _ else _) = again (settle K ws d) ws d i (k + 1)
            rw [HS.out i]
            by_cases c : i = X.s
            · rw [if_pos c, if_pos c.symm, c]
            · rw [if_neg c, if_neg (fun e => c e.symm)]
          have i1 : (X.s : Int) < (n : Int) := by omega
          have i0 : (0 : Int) ≤ (X.s : Int) := by omega
          clear hM HR HS
          generalize sec (settle K ws d) X.s = B at *
          go_wp2_with (first | (refine wpList_load_mid (by rfl) 127 (.tmp 43) (by rfl) g (k * 65) (by rfl) (wcell X) _ hr Tryz.underlying127 rfl (by rw [size80]; simp [wcell, HX.2.1]) ?_) | (refine wpList_alloc80 (by rfl) (by rfl) ?_) | (refine wpList_store80 (by rfl) (.tmp 9) (.tmp 44) (by rfl) X (by rfl) (by rfl) HX.2.1 ?_) | fail)
          simp only [Act.put, List.setIfInBounds_toArray, List.set_cons_zero, List.set_cons_succ]
          obtain ⟨W, hW⟩ : ∃ W, wr.alloc (.cells (wcell X).toArray 127) = W := ⟨_, rfl⟩
          rw [hW] at t0 t1 HT HM2 ⊢
          clear hW hr
          go_region_held3 (fun w' => w'.cell? ⟨p, 0, none⟩ = some (.slice (some ⟨q, 0, none⟩) n cap) ∧ w'.cell? ⟨wr.heap.size, 0, none⟩ = some (.int .i64 (X.s : Int))) (exact ⟨t0, t1⟩) (fail)
          clear t0 t1
          go_wp2_with (first | (refine wpList_load_mid (by rfl) 122 (.tmp 55) (by rfl) q (X.s * 128) (by rfl) (U8 B) _ HT.out.1 Tryz.underlying122 rfl (by rw [size69, U8_length, HL.out]) ?_) | (refine wpList_store_mid (by rfl) 122 (.tmp 58) (.tmp 56) (by rfl) q (X.s * 128 + 64) (U8 B).toArray (by rfl) (by rfl) (by rw [List.size_toArray, U8_length, HL.out]; exact HT.out.2) (by rw [size69, List.size_toArray, U8_length, HL.out]) (u8_ones B) ?_) | fail)
          rw [setCells_drew]
          go_roundw
          case rel => exact ⟨k + 1, by omega, by go_num, HM2.out.below ⟨rfl, rfl, rfl, Nat.le_refl _, fun _ _ => rfl⟩⟩
          case measure => simp [intOf]; omega
        · obtain rfl : ws.length = k := by omega
          have HD : Hid (Dsk wr S p n (settle K ws d) [] ∧ Kept S w wr) := ⟨HR.out.done HH.out (fun i hi => again_all HH.out.dl HH.out.fit hi), HR.out.kp⟩
          clear HR HR2
          go_wp2
          go_ret
          exact ⟨rfl, HD.out.1, HD.out.2⟩
end Go.Proofs.YtmcpjokbkkfgfaaGreatDoor

/-
  Contracts of layer 4, fourth part: Flush, Crash.
-/
namespace Go.Proofs.YtmcpjokbkkfgfaaGreatDoor
open Go.RowKit
set_option maxHeartbeats 400000 in
set_option maxRecDepth 100000 in
theorem flush_nil (w : World) : Calls Tryz.prog 44 #[.pointer none] w fun e w' => e = .returned (.tuple #[.int .i64 0, .int .i64 1]) ∧ w = w' := by
  go_enter Tryz.func44, Tryz.ntmps44
  go_wp2
  go_ret2
  exact ⟨rfl, rfl⟩
set_option maxHeartbeats 400000 in
set_option maxRecDepth 100000 in
theorem crash_nil (v : Value) (w : World) : Calls Tryz.prog 61 #[.pointer none, v] w fun e w' => e = .returned (.tuple #[.int .i64 0, .int .i64 1]) ∧ w = w' := by
  go_enter Tryz.func61, Tryz.ntmps61
  go_wp2
  go_ret2
  exact ⟨rfl, rfl⟩
set_option maxHeartbeats 400000 in
set_option maxRecDepth 100000 in
theorem flush_any {w : World} {S : Nat → Prop} {p n : Nat} {d : List Int} {ws : List Wr} (h : Dsk w S p n d ws) (hk : ws.length ≤ 100000) :
    Calls Tryz.prog 44 #[.pointer (some ⟨p, 0, none⟩)] w fun e w' => e = .returned (.tuple #[.int .i64 ws.length, .int .i64 0]) ∧ Dsk w' S p n (settle (fun _ => true) ws d) [] ∧ Kept S w w' := by
  go_enter Tryz.func44, Tryz.ntmps44
  go_wp2_with fail
  refine (settle_flush h hk (fun _ => true) (fun _ => rfl)).mono ?_
  rintro e w1 ⟨rfl, hd, hkp⟩
  go_wp2
  go_ret2
  exact ⟨rfl, hd, hkp⟩
/-- numbers that lie so -/
structure JIn (w : World) (p : Option Addr) (n : Nat) (xs : List Int) : Prop where
  len : xs.length = n
  cells : 0 < n → ∃ b o, p = some ⟨b, o, none⟩ ∧ ∀ i, i < n → w.cell? ⟨b, o + i, none⟩ = some (.int .i64 (xs.getD i 0))
theorem JIn.lt {w : World} {a : Addr} {n : Nat} {xs : List Int} (h : JIn w (some a) n xs) (h0 : 0 < n) : a.block < w.heap.size := by
  obtain ⟨b, o, e, hc⟩ := h.cells h0
  simp only [Option.some.injEq] at e
  subst e
  exact World.block_lt_of_cell? w _ (hc 0 h0)
theorem JIn.later {w w' : World} {p : Option Addr} {n : Nat} {xs : List Int} (h : JIn w p n xs) (hb : Below w.heap.size w w') : JIn w' p n xs := by
  refine ⟨h.len, fun h0 => ?_⟩
  obtain ⟨b, o, rfl, hc⟩ := h.cells h0
  refine ⟨b, o, rfl, fun i hi => ?_⟩
  rw [hb.cell (p := ⟨b, o + i, none⟩) (h.lt h0)]
  exact hc i hi
/-- the numbers that are kept, of the first k -/
def keptK (xs : List Int) (k : Nat) : Nat → Bool := fun i => decide ((i : Int) ∈ xs.take k)
/-- the numbers that are kept -/
def keepsK (xs : List Int) : Nat → Bool := fun i => decide ((i : Int) ∈ xs)
theorem keptK_all (xs : List Int) (k : Nat) (h : xs.length ≤ k) : keptK xs k = keepsK xs := by
  funext i; simp only [keptK, keepsK, List.take_of_length_le h]
def bools (m : Nat) (K : Nat → Bool) : List Value := (List.range m).map fun i => Value.bool (K i)
theorem bools_zero (xs : List Int) (m : Nat) : List.replicate m (Value.bool false) = bools m (keptK xs 0) := by
  apply List.ext_getElem?
  intro i
  simp only [bools, keptK, List.getElem?_replicate, List.getElem?_map]
  by_cases h : i < m <;> simp [h]
theorem bools_set (xs : List Int) (k m x : Nat) (hk : k < xs.length) (hx : xs[k] = (x : Int)) : (bools m (keptK xs k)).set x (Value.bool true) = bools m (keptK xs (k + 1)) := by
  apply List.ext_getElem?
  intro i
  rw [List.getElem?_set]
  simp only [bools, keptK, List.getElem?_map, List.length_map, List.length_range]
  rw [List.take_succ_eq_append_getElem hk, hx]
  by_cases hi : i < m
  · by_cases c : x = i
    · subst c; simp [hi]
    · simp only [if_neg c, List.getElem?_range hi, Option.map_some, List.mem_append, List.mem_singleton]
      simp [show ¬ (i : Int) = (x : Int) from by omega]
  · rw [List.getElem?_eq_none (by simpa using hi)]
    by_cases c : x = i <;> simp [c, hi]
theorem bools_out (xs : List Int) (k m : Nat) (hk : k < xs.length) (hx : xs[k] < 0 ∨ (m : Int) ≤ xs[k]) : bools m (keptK xs k) = bools m (keptK xs (k + 1)) := by
  unfold bools
  apply List.map_congr_left
  intro i hi
  have hi' := List.mem_range.1 hi
  simp only [keptK, List.take_succ_eq_append_getElem hk, List.mem_append, List.mem_singleton]
  simp [show ¬ (i : Int) = xs[k] from by omega]
theorem bools_length (m : Nat) (K : Nat → Bool) : (bools m K).length = m := by simp [bools]
theorem info4 : (Tryz.prog.info? 4).map (fun i => (i.zero, i.size, i.bytes)) = some (some (.bool false), 1, 1) := by kernel_rfl
/-- what stands while the numbers are looked through -/
structure Look (w wr : World) (m : Nat) (K : Nat → Bool) : Prop where
  below : Below w.heap.size w wr
  ks : Keeps wr (w.heap.size + 1) w.heap.size m K
set_option maxHeartbeats 2000000 in
set_option maxRecDepth 100000 in
theorem crash_low {w : World} {S : Nat → Prop} {p n : Nat} {d : List Int} {ws : List Wr} (h : Dsk w S p n d ws) (hk : ws.length ≤ 100000) (a : Option Addr) (m c : Nat) (xs : List Int) (hx : JIn w a m xs) (hm : m ≤ 140737488355328) (hS : ∀ k, S k → k < w.heap.size) :
    Calls Tryz.prog 61 #[.pointer (some ⟨p, 0, none⟩), .slice a m c] w fun e w' => e = .returned (.tuple #[.int .i64 ws.length, .int .i64 0]) ∧ Dsk w' S p n (settle (keepsK xs) ws d) [] ∧ Kept S w w' := by
  obtain ⟨i0, hi, hz0, hz1, hz2⟩ := info_parts info4
  have HH : Hid (Dsk w S p n d ws) := h
  obtain ⟨q, cap, v, h⟩ := h
  have h1 := h.cell1
  obtain ⟨pv, cv, rfl, _⟩ := own_slice h.wt
  have hmk := run_make (P := Tryz.prog) w 165 4 i0 _ Tryz.underlying165 hi hz0 .i64 .i64 (ws.length : Int) (ws.length : Int) (by omega) (Int.le_refl _) (by rw [hz2]; omega) (by omega)
  rw [hz1] at hmk
  simp only [Int.toNat_natCast, Nat.mul_one, Value.cells] at hmk
  rw [show madeCells #[Value.bool false] ws.length = (bools ws.length (keptK xs 0)).toArray by rw [← bools_zero]; exact made_rep 1 (.bool false) (by omega) ws.length] at hmk
  obtain ⟨ob, hob⟩ : ∃ ob, Obj.cells (bools ws.length (keptK xs 0)).toArray 4 = ob := ⟨_, rfl⟩
  rw [hob] at hmk
  have HL : Hid (Look w ((w.alloc ob).alloc (.cells #[.slice (some ⟨w.heap.size, 0, none⟩) ws.length ws.length] 165)) ws.length (keptK xs 0)) := by
    refine ⟨((Below.refl _ w).alloc (Nat.le_refl _) _).alloc (by simp) _, heap_alloc2_new w _ _, ?_⟩
    rw [heap_alloc2_old w ob _, ← hob]; rfl
  have HX : Hid (JIn w a m xs) := hx
  clear h hx hob
  go_enter Tryz.func61, Tryz.ntmps61
  go_wp2
  clear hmk h1
  generalize (w.alloc ob).alloc (.cells #[.slice (some ⟨w.heap.size, 0, none⟩) ws.length ws.length] 165) = W0 at *
  go_loopw [19] (fun i wr => ∃ k : Nat, k ≤ m ∧ i = .int .i64 k ∧ Hid (Look w wr ws.length (keptK xs k))) (fun i _ => m - (intOf i).toNat)
  case atStart => exact ⟨0, by omega, rfl, HL.out⟩
  case round =>
    obtain ⟨k, hkm, rfl, HR⟩ := hrel
    by_cases hlt : k < m
    · obtain ⟨g, o, rfl, hc⟩ := (HX.out.later HR.out.below).cells (by omega)
      have hck := hc k hlt
      have c0 : wr.cell? ⟨w.heap.size + 1, 0, none⟩ = some (.slice (some ⟨w.heap.size, 0, none⟩) ws.length ws.length) := by rw [cell_of_row _ _ _ _ _ _ HR.out.ks.box]; rfl
      have hkx : k < xs.length := by rw [HX.out.len]; exact hlt
      have ex : xs.getD k 0 = xs[k] := by simp [List.getD, List.getElem?_eq_getElem hkx]
      rw [ex] at hck
      clear ex hc
      obtain ⟨x, hxk⟩ : ∃ x, x = xs[k] := ⟨_, rfl⟩
      have HE : Hid (x = xs[k]) := hxk
      rw [← hxk] at hck
      clear hxk
      by_cases cx : 0 ≤ x ∧ x < (ws.length : Int)
      · obtain ⟨y, rfl⟩ : ∃ y : Nat, x = y := ⟨x.toNat, by omega⟩
        have hy : y < ws.length := by omega
        have cy : wr.cell? ⟨w.heap.size, y, none⟩ = some (.bool (keptK xs k y)) := by rw [cell_of_row _ _ _ _ _ _ HR.out.ks.row]; simp [hy]
        have fy := frozen_of_row wr w.heap.size y _ 4 HR.out.ks.row
        have HN : Hid (Look w (wr.setCell ⟨w.heap.size, y, none⟩ (.bool true)) ws.length (keptK xs (k + 1))) := by
          refine ⟨HR.out.below.setCell (Nat.le_refl _) _, ?_, ?_⟩
          · exact (heap_setCell_other _ _ _ _ (by show w.heap.size + 1 ≠ w.heap.size; omega)).trans HR.out.ks.box
          · have e := setCell_row (cs := bools ws.length (keptK xs k)) HR.out.ks.row y (.bool true)
            rw [bools_set xs k ws.length y hkx HE.out.symm] at e
            exact e
        clear HR HL
        generalize keptK xs k y = kk at *
        have cx1 : ¬ (y : Int) < 0 := by omega
        go_wp2
        go_roundw
        case rel => exact ⟨k + 1, by omega, by go_num, HN.out⟩
        case measure => simp [intOf]; omega
      · have HN : Hid (Look w wr ws.length (keptK xs (k + 1))) := by
          refine ⟨HR.out.below, HR.out.ks.box, ?_⟩
          have e := HR.out.ks.row
          have e2 := bools_out xs k ws.length hkx (by rw [← HE.out]; omega)
          unfold bools at e2
          rw [e2] at e
          exact e
        clear HR HL
        by_cases cx0 : 0 ≤ x
        · have cx1 : (ws.length : Int) ≤ x := by omega
          go_wp2
          go_roundw
          case rel => exact ⟨k + 1, by omega, by go_num, HN.out⟩
          case measure => simp [intOf]; omega
        · go_wp2
          go_roundw
          case rel => exact ⟨k + 1, by omega, by go_num, HN.out⟩
          case measure => simp [intOf]; omega
    · obtain rfl : m = k := by omega
      have HN : Hid (Look w wr ws.length (keepsK xs)) := by
        have := HR.out
        rw [keptK_all xs m (by rw [HX.out.len]; omega)] at this
        exact this
      clear HR HL
      go_wp2_with fail
      have hle := HN.out.below.size
      have hb := HN.out.below
      refine (settle_crash (HH.out.later hb) hk (keepsK xs) (w.heap.size + 1) w.heap.size ws.length HN.out.ks (fun s => by have := hS _ s; omega) (fun s => by have := hS _ s; omega) (by omega)).mono ?_
      rintro e w1 ⟨rfl, hd, hkp⟩
      go_wp2
      go_ret2
      exact ⟨rfl, hd, (Kept.of_below hb).trans hkp (fun _ _ h => h)⟩
theorem crash_any {w : World} {S : Nat → Prop} {p n : Nat} {d : List Int} {ws : List Wr} (h : Dsk w S p n d ws) (hk : ws.length ≤ 100000) (a : Option Addr) (m c : Nat) (xs : List Int) (hx : JIn w a m xs) (hm : m ≤ 140737488355328) :
    Calls Tryz.prog 61 #[.pointer (some ⟨p, 0, none⟩), .slice a m c] w fun e w' => e = .returned (.tuple #[.int .i64 ws.length, .int .i64 0]) ∧ Dsk w' S p n (settle (keepsK xs) ws d) [] ∧ Kept S w w' := by
  refine (crash_low (S := fun k => S k ∧ k < w.heap.size) (h.mono (fun k hk hs => ⟨hs, hk⟩)) hk a m c xs hx hm (fun _ h => h.2)).mono ?_
  rintro e w' ⟨rfl, hd, hkp⟩
  exact ⟨rfl, hd.mono (fun _ _ h => h.1), hkp.mono (fun _ _ h => h.1)⟩
end Go.Proofs.YtmcpjokbkkfgfaaGreatDoor
